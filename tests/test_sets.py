import unittest
from itertools import product

from bounds import CHAIN, GROWING, LEAVES, PAIRS, balance_pipeline, chain_pipeline
from helpers import LANG, ODD, Raises, read, right_trees, terms
from samples import small_pipelines
from test_lots import MIXED, TIDY, chain
from treeworks.errors import LimitExceeded, Mismatch, NoTree, Unknown, WrongTree
from treeworks.pipelines import Pipeline
from treeworks.sets import TreeSet, before
from treeworks.stages import Stage
from treeworks.tables import Table
from treeworks.trees import Tree

SMALL = right_trees(LANG, 5, "037")["Expr"]
ODD_SMALL = right_trees(ODD, 5)
DOUBLE = TreeSet.holding(LANG, "Expr", read("Neg(Neg(_))"))
NEG = TreeSet.covered(LANG, "Expr", read("Neg(_)"))
ONE = TreeSet.single(LANG, read("Add(Num(3), Nil)"))
EVERY = TreeSet.every(LANG, "Expr")
SETS = [DOUBLE, NEG, ONE, EVERY, ~EVERY, NEG - DOUBLE, ONE | NEG]


def holds(tree, pattern):
    return pattern.covers(tree) or any(holds(part, pattern) for part in tree.parts)


def inside(trees, some):
    return [tree.term for tree in some if tree in trees]


def contexts(table, kind, most):
    """All contexts to a kind of at most so many names, as pairs of the kind that is due at the hole and the context."""
    found = [(kind, Tree("_"))]
    for tree in right_trees(table, most, "03")[kind]:
        for path in tree.paths():
            if path:
                due = table.maker(tree[path[:-1]].name).wants[path[-1]]
                found.append((due, tree.exchanged(path, Tree("_"))))
    return found


def slow_classes(trees, kind, table, small, most=5):
    """The number of classes of a kind, as far as small trees and small contexts tell them apart."""
    ways = [way for due, way in contexts(table, trees.kind, most) if due == kind]
    marks = set()
    for tree in small[kind]:
        marks.add(tuple(way.filled(tree) in trees for way in ways))
    return len(marks)


class MembershipTest(unittest.TestCase, Raises):
    def test_every(self):
        self.assertEqual(inside(EVERY, SMALL), terms(SMALL))
        self.assertEqual((EVERY.kind, EVERY.table), ("Expr", LANG))

    def test_covered(self):
        for term in ["Neg(_)", "_", "Add(_, Neg(_))", "Nil", "Add(Neg(_), Neg(Nil))", "Num(_)"]:
            some = TreeSet.covered(LANG, "Expr", read(term))
            self.assertEqual(inside(some, SMALL), [tree.term for tree in SMALL if read(term).covers(tree)])

    def test_holding(self):
        for term in ["Neg(_)", "Add(_, Neg(_))", "Nil", "Add(Neg(_), Nil)", "Num(_)"]:
            some = TreeSet.holding(LANG, "Expr", read(term))
            self.assertEqual(inside(some, SMALL), [tree.term for tree in SMALL if holds(tree, read(term))])

    def test_holding_a_pattern_of_another_kind(self):
        some = TreeSet.holding(ODD, "K", read("List(_, Stop)"))
        self.assertEqual(inside(some, ODD_SMALL["K"]), [
            tree.term for tree in ODD_SMALL["K"] if holds(tree, read("List(_, Stop)"))
        ])
        self.assertTrue(read("Swap(End, List(End, Stop))") in some)

    def test_single(self):
        for tree in SMALL[:40]:
            self.assertEqual(inside(TreeSet.single(LANG, tree), SMALL), [tree.term])

    def test_other_trees(self):
        for tree in [read("_"), read("Neg(_)"), read("3"), read("Nope"), read("Add(Nil)"), read("Num(Nil)")]:
            self.assertFalse(tree in EVERY)
            self.assertFalse(tree in ~DOUBLE)
        self.assertFalse(read("Stop") in TreeSet.every(ODD, "K"))
        self.assertIs(read("Nil") in EVERY, True)
        self.assertIs(read("Nil") in NEG, False)

    def test_operators(self):
        signs = [
            (lambda a, b: a & b, lambda a, b: a and b), (lambda a, b: a | b, lambda a, b: a or b),
            (lambda a, b: a - b, lambda a, b: a and not b), (lambda a, b: a ^ b, lambda a, b: a != b),
        ]
        for first, second in product(SETS, repeat=2):
            for of_sets, of_answers in signs:
                self.assertEqual(
                    inside(of_sets(first, second), SMALL),
                    [tree.term for tree in SMALL if of_answers(tree in first, tree in second)],
                )

    def test_the_opposite(self):
        for some in SETS:
            self.assertEqual(inside(~some, SMALL), [tree.term for tree in SMALL if tree not in some])

    def test_mixed_ones(self):
        some = ~(DOUBLE ^ ONE) & (NEG | ONE) - TreeSet.single(LANG, read("Neg(Nil)"))
        for tree in SMALL:
            wanted = ((tree in DOUBLE) == (tree in ONE)) and (tree in NEG or tree in ONE) and tree != read("Neg(Nil)")
            self.assertEqual(tree in some, wanted)

    def test_sets_do_not_change(self):
        before_all = inside(DOUBLE, SMALL)
        DOUBLE & NEG, DOUBLE | NEG, DOUBLE - NEG, DOUBLE ^ NEG, ~DOUBLE
        self.assertEqual(inside(DOUBLE, SMALL), before_all)

    def test_other_tables_and_kinds(self):
        other = TreeSet.every(ODD, "K")
        for call in (lambda: EVERY & other, lambda: EVERY | other, lambda: EVERY - other, lambda: EVERY ^ other,
                     lambda: EVERY.within(other), lambda: other & TreeSet.every(ODD, "L")):
            self.raises(Mismatch, call)
        self.assertFalse(EVERY == other)
        self.assertFalse(~TreeSet.every(ODD, "K") == ~TreeSet.every(ODD, "L"))

    def test_another_table_with_the_same_kinds(self):
        other = TreeSet.every(Table.read(LANG.description.replace("table lang", "table other")), "Expr")
        self.raises(Mismatch, lambda: EVERY & other)
        self.raises(Mismatch, EVERY.within, other)
        self.assertFalse(EVERY == other)
        self.raises(Mismatch, before, Pipeline(TIDY), other)

    def test_an_equal_table(self):
        again = Table.read(LANG.description)
        self.assertTrue(TreeSet.every(again, "Expr") == EVERY)
        self.assertTrue((TreeSet.covered(again, "Expr", read("Neg(_)")) & NEG) == NEG)


class AnswersTest(unittest.TestCase, Raises):
    def test_the_example(self):
        path, part = DOUBLE.nearest(read("Neg(Nil)"))
        self.assertEqual(
            [DOUBLE.smallest().term, DOUBLE.number(4), DOUBLE.classes("Expr"), path, part.term],
            ["Neg(Neg(Nil))", 11, 3, (0,), "Neg(Nil)"],
        )

    def test_equal(self):
        for first, second in product(SETS, repeat=2):
            self.assertEqual(first == second, inside(first, SMALL) == inside(second, SMALL))
        self.assertTrue(NEG - DOUBLE == ~(~NEG | DOUBLE))
        self.assertTrue(TreeSet.holding(LANG, "Expr", read("Neg(Neg(_))")) == DOUBLE)
        self.assertFalse(NEG == "Neg(_)")

    def test_within(self):
        for first, second in product(SETS, repeat=2):
            here, there = inside(first, SMALL), inside(second, SMALL)
            self.assertEqual(first.within(second), set(here) <= set(there))
        self.assertIs((NEG & DOUBLE).within(DOUBLE), True)

    def test_within_among_several_kinds(self):
        small = right_trees(ODD, 8, "0")
        sets = [TreeSet.holding(ODD, kind, read(term)) for kind in ("K", "L") for term in ("List(_, Stop)", "End", "Swap(End, _)", "Both(_, _, _)")]
        for first, second in product(sets, repeat=2):
            if first.kind == second.kind:
                here, there = inside(first, small[first.kind]), inside(second, small[first.kind])
                self.assertEqual(first.within(second), set(here) <= set(there))
                self.assertEqual(first == second, here == there)

    def test_smallest(self):
        self.assertIsNone((~EVERY).smallest())
        for some in SETS[:-1]:
            least = [tree for tree in sorted(SMALL) if tree in some]
            self.assertEqual(some.smallest() if least else None, least[0] if least else None)
        # The size decides first, and then the term.
        self.assertEqual((EVERY - TreeSet.single(LANG, read("Nil"))).smallest().term, "Neg(Nil)")
        self.assertEqual(TreeSet.covered(LANG, "Expr", read("Num(_)")).smallest().term, "Num(0)")

    def test_number(self):
        full = right_trees(LANG, 6, "0123456789")["Expr"]
        for some in SETS:
            for size in range(1, 7):
                self.assertEqual(some.number(size), len([tree for tree in full if tree.size == size and tree in some]))

    def test_number_with_many_digits(self):
        full = right_trees(ODD, 5, "0123456789")
        some = TreeSet.single(ODD, read("Both(1, End, 2)")) | TreeSet.holding(ODD, "K", read("One(_, _)"))
        for size in range(1, 6):
            self.assertEqual(some.number(size), len([tree for tree in full["K"] if tree.size == size and tree in some]))
        self.assertEqual((~some).number(4), 99)

    def test_number_up_to_30(self):
        table = Table.read("table t\nK: S K = s1\nK: Z = z")
        self.assertEqual([TreeSet.every(table, "K").number(size) for size in (1, 2, 30)], [1, 1, 1])
        # Trees of nodes with two parts or none are counted by the Catalan numbers.
        pairs = Table.read("table t\nK: P K K = (12)\nK: Z = z")
        self.assertEqual([TreeSet.every(pairs, "K").number(size) for size in (1, 2, 3, 29, 30)], [1, 0, 1, 2674440, 0])

    def test_classes(self):
        self.assertEqual([EVERY.classes("Expr"), EVERY.classes("digit"), (~EVERY).classes("Expr")], [1, 1, 1])
        self.assertEqual([ONE.classes("Expr"), ONE.classes("digit")], [4, 2])
        self.assertEqual([DOUBLE.classes("Expr"), NEG.classes("Expr")], [3, 2])
        for some in SETS + [DOUBLE & ~ONE]:
            for kind in ("Expr", "digit"):
                self.assertEqual(some.classes(kind), slow_classes(some, kind, LANG, right_trees(LANG, 4, "037")))
        self.raises(Unknown, EVERY.classes, "Nil", name="Nil")

    def test_classes_of_several_kinds(self):
        small = right_trees(ODD, 6, "0")
        for term in ["Swap(_, Stop)", "Both(_, End, _)", "End"]:
            for some in (TreeSet.covered(ODD, "K", read(term)), TreeSet.holding(ODD, "L", read(term))):
                for kind in ("K", "L", "digit"):
                    self.assertEqual(some.classes(kind), slow_classes(some, kind, ODD, small, 6))

    def test_kinds_from_which_nothing_leads_to_the_kind_of_the_set(self):
        table = Table.read("table t\nA: F B = f1\nA: G = g\nB: H B = h1\nB: I = i")
        some = TreeSet.covered(table, "B", read("H(H(_))"))
        self.assertEqual([some.classes("A"), some.classes("B")], [1, 3])
        # In a set of the other kind only what leads there tells trees apart.
        some = TreeSet.holding(table, "A", read("H(I)"))
        self.assertEqual([some.classes("A"), some.classes("B")], [2, 2])


class NearestTest(unittest.TestCase, Raises):
    def slow_nearest(self, some, tree, parts):
        best = None
        for at, path in enumerate(tree.paths()):
            for part in parts[self.due(some, tree, path)]:
                if tree.exchanged(path, part) in some:
                    cost = (tree[path].size + part.size, at, part.size, part.term)
                    if best is None or cost < best[0]:
                        best = (cost, path, part)
        return best[1], best[2].term

    def due(self, some, tree, path):
        return some.table.maker(tree[path[:-1]].name).wants[path[-1]] if path else some.kind

    def test_against_all_exchanges(self):
        parts = right_trees(LANG, 5, "037")
        for some in SETS[:4] + [ONE | DOUBLE, NEG - DOUBLE]:
            for tree in SMALL[:60]:
                found = some.nearest(tree)
                if tree in some:
                    self.assertIsNone(found)
                else:
                    self.assertEqual((found[0], found[1].term), self.slow_nearest(some, tree, parts))

    def test_several_kinds(self):
        parts = right_trees(ODD, 6, "012")
        for some in (TreeSet.single(ODD, read("Swap(End, One(1, 2))")), TreeSet.holding(ODD, "K", read("List(_, Stop)"))):
            for tree in ODD_SMALL["K"][:40]:
                if tree not in some:
                    found = some.nearest(tree)
                    self.assertEqual((found[0], found[1].term), self.slow_nearest(some, tree, parts))

    def test_digits(self):
        found = TreeSet.single(LANG, read("Neg(Num(7))")).nearest(read("Neg(Num(3))"))
        self.assertEqual((found[0], found[1].term), ((0, 0), "7"))
        some = ~TreeSet.single(LANG, read("Num(0)"))
        found = some.nearest(read("Num(0)"))
        self.assertEqual((found[0], found[1].term), ((0,), "1"))

    def test_equal_costs(self):
        # Either part can be exchanged; the first place in reading order is taken.
        some = TreeSet.covered(LANG, "Expr", read("Add(Nil, _)")) | TreeSet.covered(LANG, "Expr", read("Add(_, Nil)"))
        found = some.nearest(read("Add(Neg(Nil), Neg(Nil))"))
        self.assertEqual((found[0], found[1].term), ((0,), "Nil"))
        some = TreeSet.covered(LANG, "Expr", read("Add(Neg(_), _)"))
        found = some.nearest(read("Add(Nil, Nil)"))
        self.assertEqual((found[0], found[1].term), ((0,), "Neg(Nil)"))
        # An outer place with the same cost comes first, and the least part of the same size.
        some = NEG | TreeSet.single(LANG, read("Add(Num(3), Num(3))"))
        found = some.nearest(read("Num(3)"))
        self.assertEqual((found[0], found[1].term), ((), "Neg(Nil)"))

    def test_errors_in_their_order(self):
        self.raises(WrongTree, (~EVERY).nearest, read("Neg(_)"), path=(0,))
        self.raises(WrongTree, EVERY.nearest, read("3"), path=())
        self.raises(NoTree, (~EVERY).nearest, read("Nil"))
        self.assertIsNone(EVERY.nearest(read("Nil")))

    def test_a_large_tree(self):
        tree = read("Nil")
        for _ in range(58):
            tree = Tree("Add", tree, read("Add(Nil, Num(4))"))
        path, part = TreeSet.holding(LANG, "Expr", read("Neg(Neg(Neg(_)))")).nearest(tree)
        self.assertEqual((path, part.term), ((0,) * 58, "Neg(Neg(Neg(Nil)))"))


class WrongPatternsTest(unittest.TestCase, Raises):
    def test_kinds(self):
        for call in (TreeSet.covered, TreeSet.holding):
            self.raises(Unknown, call, LANG, "digit", read("3"), name="digit")
            self.raises(Unknown, call, LANG, "Nil", read("3"), name="Nil")
        self.raises(Unknown, TreeSet.every, LANG, "digit", name="digit")
        self.raises(Unknown, TreeSet.every, LANG, "K", name="K")

    def test_covered(self):
        self.raises(WrongTree, TreeSet.covered, LANG, "Expr", read("3"), path=())
        self.raises(WrongTree, TreeSet.covered, LANG, "Expr", read("Num(3)"), path=(0,))
        self.raises(WrongTree, TreeSet.covered, LANG, "Expr", read("Add(Num(3), Num(Nil))"), path=(1, 0))
        self.raises(WrongTree, TreeSet.covered, LANG, "Expr", read("Add(_, Num(3))"), path=(1, 0))
        self.raises(WrongTree, TreeSet.covered, ODD, "K", read("Stop"), path=())
        self.assertTrue(TreeSet.covered(LANG, "Expr", read("_")) == EVERY)

    def test_holding(self):
        self.raises(WrongTree, TreeSet.holding, LANG, "Expr", read("_"), path=())
        self.raises(WrongTree, TreeSet.holding, LANG, "Expr", read("3"), path=())
        self.raises(WrongTree, TreeSet.holding, LANG, "Expr", read("Nope(3)"), path=())
        self.raises(WrongTree, TreeSet.holding, LANG, "Expr", read("Num(3)"), path=(0,))
        self.raises(WrongTree, TreeSet.holding, LANG, "Expr", read("Add(Nil)"), path=())

    def test_single(self):
        self.raises(WrongTree, TreeSet.single, LANG, read("3"), path=())
        self.raises(WrongTree, TreeSet.single, LANG, read("_"), path=())
        self.raises(WrongTree, TreeSet.single, LANG, read("Neg(_)"), path=(0,))
        self.raises(WrongTree, TreeSet.single, LANG, read("Add(Nil, Num(Nil))"), path=(1, 0))


class RefusalTest(unittest.TestCase, Raises):
    def test_covered_and_holding(self):
        # Ten leaves, each with a look of its own, and what is above them.
        names = [f"L{at}" for at in range(8)]
        table = Table("t", ("K", "P", ("K", "K"), "(12)"), ("K", "S", ("K",), "s1"),
                      *[("K", name, (), "abcdefgh"[at]) for at, name in enumerate(names)])
        pattern = read("P(P(L0, L1), P(S(_), P(L2, L3)))")
        some = TreeSet.covered(table, "K", pattern)
        self.assertTrue(read("P(P(L0, L1), P(S(L5), P(L2, L3)))") in some)
        self.assertTrue(read("S(P(P(L0, L1), P(S(L5), P(L2, L3))))") in TreeSet.holding(table, "K", pattern))

    def test_combinations_at_30_and_31(self):
        table = Table.read("table t\nK: P K K = (12)\nK: S K = s1\nK: A = a\nK: B = b\nK: C = c")
        pattern = read("P(P(_, P(C, B)), P(P(P(_, A), _), _))")
        some = TreeSet.holding(table, "K", pattern)
        self.assertEqual(some.smallest().term, "P(P(A, P(C, B)), P(P(P(A, A), A), A))")
        # More combinations for `holding`, in which it counts whether some part is covered.
        pattern = read("P(P(P(P(A, _), _), _), P(P(_, P(A, B)), _))")
        self.raises(LimitExceeded, TreeSet.holding, table, "K", pattern, limit="lots")
        self.assertFalse(TreeSet.covered(table, "K", pattern).smallest() is None)
        pattern = read("P(P(S(A), P(_, P(B, _))), P(_, P(_, P(A, _))))")
        self.assertFalse(TreeSet.covered(table, "K", pattern).smallest() is None)
        pattern = read("P(P(P(P(_, A), _), _), P(_, P(P(B, _), _)))")
        self.raises(LimitExceeded, TreeSet.covered, table, "K", pattern, limit="lots")

    def test_single(self):
        for many, refused in ((29, False), (30, True)):
            tree = chain(many - 1)
            if refused:
                self.raises(LimitExceeded, TreeSet.single, CHAIN, tree, limit="lots")
            else:
                self.assertEqual(TreeSet.single(CHAIN, tree).classes("N"), 30)

    def test_single_with_digits_and_equal_parts(self):
        tree = read("Num(0)")
        for digit in "123456789":
            tree = Tree("Add", tree, Tree("Num", Tree(digit)))
        some = TreeSet.single(LANG, tree)
        self.assertEqual([some.classes("Expr"), some.classes("digit")], [20, 10])
        large = read("Z")
        for _ in range(9):
            large = Tree("P", large, large)
        self.assertEqual((TreeSet.single(GROWING, large).classes("N"), large.size), (11, 1023))

    def test_operators(self):
        first, second = TreeSet.single(CHAIN, chain(9, "A")), TreeSet.single(CHAIN, chain(18, "B"))
        self.assertEqual([first.classes("N"), second.classes("N")], [11, 20])
        # Thirty combinations, but chains that lead to the one or the other tree in the same way are in the same class.
        self.assertEqual((first | second).classes("N"), 20)
        third = TreeSet.single(CHAIN, chain(19, "B"))
        for call in (lambda: first | third, lambda: first & third, lambda: first - third, lambda: first ^ third):
            self.raises(LimitExceeded, call, limit="lots")
        # These are never refused.
        self.assertFalse(first == third)
        self.assertFalse(first.within(third))
        self.assertTrue(first.within(~third))
        self.assertEqual((~third).classes("N"), 21)

    def test_classes_are_taken_together(self):
        first, second = TreeSet.single(CHAIN, chain(9, "A")), TreeSet.single(CHAIN, chain(18, "B"))
        both = first | second
        self.assertTrue(both - first == second)
        self.assertEqual((both & ~both).classes("N"), 1)

    def test_a_least_tree_of_more_than_2000_names(self):
        large = read("Z")
        for _ in range(9):
            large = Tree("P", large, large)
        left = Pipeline(Stage("left", GROWING, GROWING, ("a", "N", "N", ["P(x, y) => b(x)", "_ => Z"]), COPY))
        right = Pipeline(Stage("right", GROWING, GROWING, ("a", "N", "N", ["P(x, y) => b(y)", "_ => Z"]), COPY))
        first, second = [before(pipeline, TreeSet.single(GROWING, large)) for pipeline in (left, right)]
        self.assertEqual([first.smallest().size, second.smallest().size], [1025, 1025])
        for call in (lambda: first & second, lambda: first | second, lambda: first - second, lambda: first ^ second):
            self.raises(LimitExceeded, call, limit="lots")
        self.assertFalse(first.within(second))
        smaller = before(right, TreeSet.single(GROWING, large.parts[0]))
        self.assertEqual((first & smaller).smallest().size, 1535)


COPY = ("b", "N", "N", ["P(x, y) => P(b(x), b(y))", "S(x) => S(b(x))", "Z => Z"])


class BeforeTest(unittest.TestCase, Raises):
    def test_against_the_results(self):
        for pipeline in small_pipelines(range(60), 3):
            small = right_trees(pipeline.source, 5)[pipeline.takes][:80]
            results = [pipeline(tree) for tree in small]
            table, kind = pipeline.target, pipeline.gives
            sets = [TreeSet.every(table, kind), TreeSet.single(table, results[-1]), TreeSet.single(table, results[0])]
            for maker in table.makers(kind):
                parts = ", ".join("_" for _ in maker.wants)
                sets.append(TreeSet.holding(table, kind, read(f"{maker.name}({parts})" if parts else maker.name)))
            for some in sets:
                try:
                    found = before(pipeline, some)
                except LimitExceeded:
                    continue
                self.assertEqual([tree in found for tree in small], [result in some for result in results])

    def test_states_that_give_digits(self):
        pipeline = Pipeline(MIXED)
        small = right_trees(ODD, 6, "07")["K"]
        some = TreeSet.single(ODD, read("Both(4, End, 7)"))
        found = before(pipeline, some)
        self.assertEqual([tree in found for tree in small], [pipeline(tree) in some for tree in small])
        self.assertEqual(found.smallest().term, "Both(7, End, 0)")
        self.assertEqual(found.classes("digit"), 2)

    def test_results_of_any_size(self):
        double = Stage("double", GROWING, GROWING, ("a", "N", "N", ["S(x) => P(a(x), a(x))", "_ => Z"]))
        found = before(Pipeline(double), TreeSet.holding(GROWING, "N", read("P(P(_, _), _)")))
        tree = read("Z")
        for _ in range(59):
            tree = Tree("S", tree)
        self.assertTrue(tree in found)
        self.assertEqual(found.smallest().term, "S(S(Z))")

    def test_errors_in_their_order(self):
        self.raises(Mismatch, before, Pipeline(TIDY), TreeSet.every(ODD, "K"))
        self.raises(Mismatch, before, Pipeline(MIXED), TreeSet.every(ODD, "L"))
        large = chain_pipeline(LEAVES, LEAVES, LEAVES)
        self.raises(LimitExceeded, before, large, TreeSet.every(CHAIN, "N"), limit="lots")
        self.raises(Mismatch, before, large, EVERY)

    def test_at_its_bound(self):
        pipeline = chain_pipeline(LEAVES, LEAVES, LEAVES[:5])
        self.assertEqual(before(pipeline, TreeSet.every(CHAIN, "N")).classes("N"), 1)
        self.assertEqual(before(pipeline, TreeSet.single(CHAIN, read("A"))).smallest().term, "A")
        # The classes of the set tell more trees apart than the pipeline does.
        self.raises(LimitExceeded, before, pipeline, TreeSet.single(CHAIN, chain(3, "F")), limit="lots")

    def test_least_trees_of_more_than_2000_names(self):
        found = before(balance_pipeline("K O digit = k12\nO: D digit digit = 12"), TreeSet.single(PAIRS, read("Z")))
        self.assertEqual(found.smallest().size, 1807)
        large = balance_pipeline("K O digit digit = k123\nO: D digit digit = 12")
        self.raises(LimitExceeded, before, large, TreeSet.every(PAIRS, "N"), limit="lots")

    def test_classes_behind_the_last_stage(self):
        copy = Pipeline(Stage("copy", CHAIN, CHAIN, ("b", "N", "N", ["S(x) => S(b(x))", *[f"{leaf} => {leaf}" for leaf in LEAVES]])))
        self.assertEqual(before(copy, TreeSet.single(CHAIN, chain(28))).classes("N"), 30)
        self.assertTrue(before(copy, TreeSet.single(CHAIN, chain(28))) == TreeSet.single(CHAIN, chain(28)))

    def test_digits_count_for_states_that_give_digits(self):
        stage = Stage("s", LANG, LANG, ("t", "Expr", "Expr", ["_ => Num(1)"]),
                      ("g", "Expr", "digit", ["Num(d) => d", "_ => 1"]))
        some = before(Pipeline(stage), TreeSet.single(LANG, read("Num(2)")))
        self.assertTrue(some == ~EVERY)


if __name__ == "__main__":
    unittest.main()
