import unittest
from itertools import product

from bounds import FORKED, LEAVES, chain_pipeline
from helpers import LANG, ODD, Raises, read, right_trees, terms
from samples import small_pipelines
from test_lots import MIXED, TIDY, chain
from test_sure import dues, holed_trees
from test_walks import COPY, DOUBLE, MORE, balanced, comb, negs
from treeworks.errors import BadCount, BadIndex, LimitExceeded, NoPlace, WrongTree
from treeworks.outlines import needed, opening, outline, two_fillings
from treeworks.pipelines import Pipeline
from treeworks.stages import Stage
from treeworks.sure import Sure, sure_result
from treeworks.tables import Table
from treeworks.trees import Tree

FOLD = Stage("fold", LANG, LANG, ("f", "Expr", "Expr", [
    "Add(Nil, Nil) => Nil", "Add(x, y) => Add(f(x), f(y))", "Neg(x) => Neg(f(x))", "Num(d) => Num(d)", "Nil => Nil",
]))
# Two states that always lead to the same, one of them the other way round, and one that leads to something else.
TWINS = Stage(
    "twins", LANG, LANG,
    ("s", "Expr", "Expr", ["Add(x:Nil, y) => Add(a(y), Nil)", "Add(x:Neg(Nil), y) => Add(b(y), Nil)",
                           "Add(x:Neg(_), y) => Add(c(y), Nil)", "_ => Nil"]),
    ("a", "Expr", "Expr", ["Add(x, y) => Add(b(y), a(x))", "Neg(x) => Neg(b(x))", "Num(d) => Num(d)", "Nil => Nil"]),
    ("b", "Expr", "Expr", ["Add(x, y) => Add(a(y), b(x))", "Neg(x) => Neg(a(x))", "Num(d) => Num(d)", "Nil => Nil"]),
    ("c", "Expr", "Expr", ["Add(x, y) => Add(a(y), a(y))", "Neg(x) => Neg(c(x))", "Num(d) => Num(d)", "Nil => Nil"]),
)


def marks_of(tree):
    return [tree[path].term for path in tree.paths() if "@" in tree[path].name or tree[path].name == "digit"]


def put_in(pipeline, found, parts):
    """An outline in which the marks are exchanged for what they stand for."""
    if found.name == "digit":
        return parts[int(found.parts[0].name)]
    if "@" in found.name:
        word, _, path = found.name.partition("@")
        place = () if path == "-" else tuple(int(at) for at in path.split("."))
        return pipeline.applied(word, parts[int(found.parts[0].name)])[place]
    return Tree(found.name, *[put_in(pipeline, part, parts) for part in found.parts])


def slow_needed(sure, tree, small):
    """The needed holes, as far as fillings with these parts show them."""
    rows = [small[due] for due in dues(sure.pipeline.source, sure.pipeline.takes, tree)]
    results = {tuple(terms(parts)): sure.walk(tree.filled(*parts)).term for parts in product(*rows)}
    found = []
    for at, path in enumerate(tree.holes()):
        groups = {}
        for parts, result in results.items():
            groups.setdefault(parts[:at] + parts[at + 1:], set()).add(result)
        if any(len(group) > 1 for group in groups.values()):
            found.append(path)
    return found


class OutlineTest(unittest.TestCase, Raises):
    def test_the_example(self):
        sure = Sure(Pipeline(TIDY))
        tree = read("Add(Neg(_), Num(7))")
        self.assertEqual(
            [outline(sure, tree, 0).term, outline(sure, tree, 1).term, needed(sure, tree)],
            ["Add(Num(7), Nil)", "Add(Num(7), Neg(t@-(0)))", [(0, 0)]],
        )

    def test_marks_at_their_places(self):
        sure = Sure(Pipeline(TIDY))
        self.assertEqual(outline(sure, read("Add(Num(_), _)"), 0, 1).term, "Add(t@-(1), Num(digit(0)))")
        self.assertEqual(outline(sure, read("_"), 1).term, "t@-(0)")
        self.assertEqual(outline(sure, read("_"), 0).term, "Nil")
        self.assertEqual(outline(sure, read("Neg(Nil)")).term, "Nil")

    def test_longer_paths(self):
        stage = Stage("s", LANG, LANG, ("t", "Expr", "Expr", [
            "Add(x, y) => Add(Nil, Add(Num(3), Neg(t(x))))", "Neg(x) => Add(Nil, Add(Num(3), Neg(t(x))))", "_ => Add(Nil, Add(Num(3), Neg(Nil)))",
        ]))
        self.assertEqual(outline(Sure(Pipeline(stage)), read("Neg(_)"), 0).term,
                         "Add(Nil, Add(Num(3), Neg(Add(Nil, Add(Num(3), Neg(t@1.1.0(0)))))))")

    def test_marks_ahead_of_what_is_sure(self):
        stage = Stage("s", LANG, LANG, ("t", "Expr", "Expr", ["Neg(x) => Add(t(x), Num(3))", "Num(d) => Add(Nil, Num(3))", "_ => Add(Neg(Nil), Num(3))"]))
        sure = Sure(Pipeline(stage))
        self.assertEqual(sure.sure_line("t", 0).term, "Add(_, Num(3))")
        self.assertEqual(outline(sure, read("Neg(_)"), 0).term, "Add(Add(t@0(0), Num(3)), Num(3))")

    def test_words_that_give_digits(self):
        sure = Sure(Pipeline(MIXED))
        self.assertEqual(outline(sure, read("Both(_, _, 2)"), 0, 1).term, "Both(g@-(1), k@-(1), digit(0))")
        self.assertEqual(outline(sure, read("Both(_, _, _)"), 0, 0, 0).term, "Both(4, End, digit(0))")

    def test_a_hole_whose_part_is_used_twice_or_not_at_all(self):
        self.assertEqual(outline(Sure(Pipeline(DOUBLE)), read("Neg(_)"), 0).term, "Add(d@-(0), d@-(0))")
        first = Stage("first", LANG, LANG, ("f", "Expr", "Expr", ["Add(x, y) => f(x)", "_ => Nil"]))
        self.assertEqual(outline(Sure(Pipeline(first)), read("Add(Nil, _)"), 0).term, "Nil")

    def test_against_the_results(self):
        for pipeline in small_pipelines(range(60)):
            sure = Sure(pipeline)
            small = {kind: trees[:12] for kind, trees in right_trees(pipeline.source, 4).items()}
            for tree in holed_trees(pipeline.source, pipeline.takes, 5)[:12]:
                kinds = dues(pipeline.source, pipeline.takes, tree)
                for parts in list(product(*[small[kind] for kind in kinds]))[:60]:
                    lots = [sure.walk.lots.lot(part) for part in parts]
                    found = outline(sure, tree, *lots)
                    self.assertEqual(put_in(pipeline, found, parts), pipeline(tree.filled(*parts)))

    def test_errors_in_their_order(self):
        sure = Sure(Pipeline(MIXED))
        self.raises(WrongTree, outline, sure, read("Stop"), 7, path=())
        self.raises(WrongTree, outline, sure, read("Both(_, 3, _)"), path=(1,))
        self.raises(BadCount, outline, sure, read("Both(_, _, 3)"), 99, count=1)
        self.raises(BadCount, outline, sure, read("Both(_, _, 3)"), 0, 0, 0, count=3)
        self.raises(BadIndex, outline, sure, read("Both(_, _, 3)"), 1, -1, index=1)
        self.raises(BadIndex, outline, sure, read("Both(_, _, 3)"), 0, -1, index=-1)
        self.raises(BadIndex, outline, sure, read("Both(_, _, 3)"), 0, 99, index=99)

    def test_its_bounds(self):
        sure = Sure(Pipeline(MORE))
        # The mark at the bottom has two levels.
        self.assertEqual(outline(sure, negs(57, "_"), 0).levels, 60)
        self.raises(LimitExceeded, outline, sure, negs(58, "_"), 0, limit="result")
        holed = comb(1997).exchanged(list(comb(1997).paths())[-1], Tree("_"))
        self.assertEqual(outline(sure, holed, 0).size, 1999)
        holed = comb(1999).exchanged(list(comb(1999).paths())[-1], Tree("_"))
        self.raises(LimitExceeded, outline, sure, holed, 0, limit="result")
        self.assertEqual(sure_result(sure, holed).size, 2000)
        self.raises(LimitExceeded, outline, Sure(Pipeline(DOUBLE)), negs(40, "_"), 0, limit="result")

    def test_many_holes(self):
        tree = read("_")
        for _ in range(5):
            tree = Tree("Add", tree, tree)
        found = outline(Sure(Pipeline(COPY)), tree, *[0] * 32)
        self.assertEqual(marks_of(found), [f"c@-({at})" for at in range(32)])


class OpeningTest(unittest.TestCase, Raises):
    def check(self, sure, tree, place):
        first, second = opening(sure, tree, place)
        for full in (first, second):
            self.assertTrue(full.whole and tree.covers(full))
            sure.pipeline.source.check(full, sure.pipeline.takes)
        self.assertNotEqual(sure.walk(first)[place].name, sure.walk(second)[place].name)

    def test_each_hole_of_the_sure_result(self):
        for pipeline in small_pipelines(range(60)):
            sure = Sure(pipeline)
            for tree in holed_trees(pipeline.source, pipeline.takes, 5)[:20]:
                for place in sure_result(sure, tree).holes():
                    self.check(sure, tree, place)

    def test_digits(self):
        sure = Sure(Pipeline(MIXED))
        self.check(sure, read("Both(_, End, 3)"), (2,))
        self.check(sure, read("Both(1, _, _)"), (0,))

    def test_names_that_part_only_far_below(self):
        sure = Sure(Pipeline(TIDY) * 4)
        self.check(sure, read("Add(Neg(Neg(Neg(_))), _)"), (1,))

    def test_no_place(self):
        sure = Sure(Pipeline(TIDY))
        for place in [(), (0,), (1, 0), (2,), (0, 0), (0, 0, 0), (-1,)]:
            self.raises(NoPlace, opening, sure, read("Add(Neg(_), Num(7))"), place, path=place)
        self.raises(NoPlace, opening, sure, read("Nil"), (), path=())

    def test_errors_in_their_order(self):
        self.raises(WrongTree, opening, Sure(Pipeline(MIXED)), read("Stop"), (9,), path=())
        self.raises(LimitExceeded, opening, Sure(Pipeline(DOUBLE)), negs(40, "_"), (9,), limit="result")

    def test_the_size_of_the_parts(self):
        sure = Sure(Pipeline(TIDY) * 4)
        lots = sure.walk.lots
        self.assertLessEqual(lots.many("Expr"), 8)
        for tree in (read("_"), read("Add(_, Neg(_))"), read("Neg(Neg(_))")):
            for place in sure_result(sure, tree).holes():
                for full in opening(sure, tree, place):
                    for path in tree.holes():
                        self.assertLessEqual(full[path].size, 2000)
                        self.assertLessEqual(full[path].levels, 60)


class NeededTest(unittest.TestCase, Raises):
    def check_two(self, sure, tree):
        found = needed(sure, tree)
        for at, path in enumerate(tree.holes()):
            pair = two_fillings(sure, tree, path)
            self.assertEqual(pair is not None, path in found)
            if pair is not None:
                first, second = pair
                self.assertEqual([one == other for one, other in zip(first, second)], [index != at for index in range(len(first))])
                self.assertIsInstance(first, tuple)
                for due, part in zip(dues(sure.pipeline.source, sure.pipeline.takes, tree), first + second):
                    sure.pipeline.source.check(part, due)
                self.assertNotEqual(sure.walk(tree.filled(*first)), sure.walk(tree.filled(*second)))
        return found

    def test_against_fillings(self):
        for pipeline in small_pipelines(range(80)):
            sure = Sure(pipeline)
            small = {kind: trees[:12] for kind, trees in right_trees(pipeline.source, 4).items()}
            for tree in holed_trees(pipeline.source, pipeline.takes, 5)[:12]:
                found = self.check_two(sure, tree)
                self.assertTrue(set(slow_needed(sure, tree, small)) <= set(found))
                self.assertEqual(not found, sure_result(sure, tree).whole)

    def test_reading_order(self):
        sure = Sure(Pipeline(TIDY))
        self.assertEqual(self.check_two(sure, read("Add(Neg(_), Add(_, Num(_)))")), [(0, 0), (1, 0), (1, 1, 0)])
        self.assertEqual(needed(sure, read("Add(Nil, Nil)")), [])

    def test_holes_that_are_never_needed(self):
        sure = Sure(Pipeline(MIXED))
        self.assertEqual(self.check_two(sure, read("Swap(_, List(_, Stop))")), [(0,)])
        self.assertEqual(self.check_two(sure, read("Both(3, End, _)")), [])

    def test_holes_that_are_needed_only_with_another_one(self):
        # The second part counts only if the first one is a `Neg`, and only as far as it is `Nil`.
        stage = Stage("s", LANG, LANG, ("s", "Expr", "Expr", ["Add(x:Neg(_), y:Nil) => Nil", "Add(x:Neg(_), y) => Neg(Nil)", "_ => Nil"]))
        sure = Sure(Pipeline(stage))
        self.assertEqual(self.check_two(sure, read("Add(_, _)")), [(0,), (1,)])
        self.assertEqual(self.check_two(sure, read("Add(Nil, _)")), [])
        self.assertEqual(self.check_two(sure, read("Add(_, Nil)")), [])
        self.assertEqual(self.check_two(sure, read("Add(_, Neg(_))")), [(0,)])

    def test_marks_that_mean_the_same(self):
        # Both states give the same results, so it does not matter which of them is used.
        sure = Sure(Pipeline(TWINS))
        lots = sure.walk.lots
        self.assertNotEqual(outline(sure, read("Add(_, _)"), lots.lot(read("Nil")), 0), None)
        self.assertEqual(self.check_two(sure, read("Add(Neg(Nil), _)")), [(1,)])
        alike = Stage("alike", LANG, LANG, ("s", "Expr", "Expr", ["Add(x:Nil, y) => Add(a(y), Nil)", "Add(x, y) => Add(b(y), Nil)", "_ => Nil"]),
                      *[(state.name, "Expr", "Expr", [row.written for row in state.rows]) for state in TWINS.states[1:3]])
        self.assertEqual(self.check_two(Sure(Pipeline(alike)), read("Add(_, _)")), [(1,)])

    def test_marks_that_differ_only_far_below(self):
        sure = Sure(Pipeline(TWINS))
        self.assertEqual(self.check_two(sure, read("Add(_, _)")), [(0,), (1,)])
        self.assertEqual(self.check_two(sure, read("Add(Neg(_), _)")), [(0, 0), (1,)])
        first, second = two_fillings(sure, read("Add(Neg(_), _)"), (0, 0))
        self.assertEqual(first[1].name, second[1].name)

    def test_marks_that_differ_some_steps_below(self):
        # The states take turns, and only the last one of them leads to something else.
        rows = ["Add(x, y) => Add({0}(x), {0}(y))", "Neg(x) => Neg({0}(x))", "Num(d) => Num(d)"]
        turns = [("p", "q", "Nil"), ("q", "r", "Nil"), ("r", "p", "Num(0)")]
        states = [(name, "Expr", "Expr", [row.format(after) for row in rows] + [f"Nil => {end}"]) for name, after, end in turns]
        stage = Stage("s", LANG, LANG, ("s", "Expr", "Expr", ["Add(Neg(_), y) => Add(p(y), Nil)", "Add(x, y) => Add(q(y), Nil)", "_ => Nil"]), *states)
        sure = Sure(Pipeline(stage))
        self.assertEqual(self.check_two(sure, read("Add(_, _)")), [(0,), (1,)])
        self.assertEqual(self.check_two(sure, read("Add(_, Num(_))")), [(1, 0)])
        self.assertEqual(self.check_two(sure, read("Add(_, Neg(_))")), [(0,), (1, 0)])
        first, second = two_fillings(sure, read("Add(_, _)"), (0,))
        self.assertEqual([part.term for part in (first[0], second[0])], ["Nil", "Neg(Nil)"])
        # With a second stage that takes turns, too, the difference lies deeper.
        longer = Stage("t", LANG, LANG, *[(name, "Expr", "Expr", [row.format(after) for row in rows] + [f"Nil => {end}"])
                                          for name, after, end in [("p", "q", "Nil"), ("q", "r", "Nil"), ("r", "s", "Nil"), ("s", "p", "Neg(Nil)")]])
        self.assertEqual(self.check_two(Sure(Pipeline(stage, longer)), read("Add(_, _)")), [(0,), (1,)])

    def test_a_mark_and_a_node(self):
        # For the least part the mark stands for the same as the node of the other outline.
        rows = ["Add(x, y) => Add(c(x), c(y))", "Neg(x) => Neg(c(x))", "Num(d) => Num(d)", "Nil => Nil"]
        for heads in (["Add(x:Neg(_), y) => c(y)", "Add(x, y) => Nil"], ["Add(x:Neg(_), y) => Nil", "Add(x, y) => c(y)"]):
            stage = Stage("s", LANG, LANG, ("s", "Expr", "Expr", [*heads, "_ => Nil"]), ("c", "Expr", "Expr", rows))
            self.assertEqual(self.check_two(Sure(Pipeline(stage)), read("Add(_, _)")), [(0,), (1,)])

    def test_marks_for_other_holes(self):
        # The first hole chooses which one of the two others is taken.
        stage = Stage("s", LANG, LANG, ("s", "Expr", "Expr", ["Add(Nil, y) => l(y)", "Add(x, y) => r(y)", "_ => Nil"]),
                      ("l", "Expr", "Expr", ["Add(x, y) => c(x)", "_ => Nil"]), ("r", "Expr", "Expr", ["Add(x, y) => c(y)", "_ => Nil"]),
                      ("c", "Expr", "Expr", ["Add(x, y) => Add(c(x), c(y))", "Neg(x) => Neg(c(x))", "Num(d) => Num(d)", "Nil => Nil"]))
        sure = Sure(Pipeline(stage))
        self.assertEqual(self.check_two(sure, read("Add(_, Add(_, _))")), [(0,), (1, 0), (1, 1)])
        self.assertEqual(self.check_two(sure, read("Add(_, Add(Num(_), Num(_)))")), [(0,), (1, 0, 0), (1, 1, 0)])
        self.assertEqual(self.check_two(sure, read("Add(_, Add(Nil, Num(_)))")), [(0,), (1, 1, 0)])
        self.assertEqual(self.check_two(sure, read("Add(_, Add(Num(3), Num(_)))")), [(0,), (1, 1, 0)])
        self.assertEqual(self.check_two(sure, read("Add(_, Add(Nil, Nil))")), [])

    def test_digits(self):
        sure = Sure(Pipeline(MIXED))
        self.assertEqual(self.check_two(sure, read("Both(_, End, 3)")), [(0,)])
        self.assertEqual(self.check_two(sure, read("Both(_, Both(_, End, _), 3)")), [(0,), (1, 0), (1, 2)])

    def test_results_of_any_size_on_the_way(self):
        sure = Sure(Pipeline(DOUBLE, COPY, Stage("last", LANG, LANG, ("l", "Expr", "Expr", ["Add(x, y) => Neg(l(x))", "_ => Nil"]))))
        self.assertEqual(self.check_two(sure, negs(50, "_")), [(0,) * 50])

    def test_the_number_of_holes(self):
        sure = Sure(Pipeline(TIDY))
        self.raises(BadCount, needed, sure, read("Add(Add(_, _), Add(_, _))"), count=4)
        self.raises(BadCount, two_fillings, sure, read("Add(Add(_, _), Add(_, _))"), (0, 0), count=4)
        self.assertEqual(len(needed(sure, read("Add(Add(_, _), Add(Nil, _))"))), 3)

    def test_choices(self):
        sure = Sure(chain_pipeline(LEAVES[:3]))
        self.assertEqual(sure.walk.lots.many("N"), 10)
        self.assertEqual(needed(sure, chain(3, "_")), [(0, 0, 0)])
        for many, refused in ((10, False), (11, True)):
            pipeline, tree = cube_pipeline(many)
            cube = Sure(pipeline)
            self.assertEqual(cube.walk.lots.many("N"), many)
            if refused:
                self.raises(LimitExceeded, needed, cube, tree, limit="choices")
                self.raises(LimitExceeded, two_fillings, cube, tree, (0,), limit="choices")
            else:
                self.assertEqual(len(self.check_two(cube, tree)), 3)

    def test_nine_hundred_choices(self):
        sure = Sure(chain_pipeline(LEAVES, LEAVES, LEAVES[:5], table=FORKED))
        self.assertEqual(sure.walk.lots.many("N"), 30)
        tree = read("P(S(_), P(C, _))")
        self.assertEqual(self.check_two(sure, tree), [(0, 0), (1, 1)])
        self.assertEqual(sure_result(sure, tree).term, "P(_, P(C, _))")

    def test_the_order_of_choices_and_holes(self):
        pipeline, tree = cube_pipeline(11)
        self.raises(BadCount, needed, Sure(pipeline), tree.filled(tree, Tree("_"), Tree("_")), count=5)

    def test_outlines_that_are_too_large(self):
        sure = Sure(Pipeline(MORE))
        self.raises(LimitExceeded, needed, sure, negs(58, "_"), limit="result")
        self.assertEqual(needed(sure, negs(57, "_")), [(0,) * 57])
        self.raises(LimitExceeded, needed, sure, comb(2000), limit="result")
        self.assertEqual(needed(sure, comb(1999)), [])
        self.raises(LimitExceeded, two_fillings, sure, negs(58, "_"), (0,) * 58, limit="result")

    def test_errors_in_their_order(self):
        sure = Sure(Pipeline(MIXED))
        self.raises(WrongTree, needed, sure, read("Swap(_, Swap(_, Stop))"), path=(1,))
        self.raises(WrongTree, two_fillings, sure, read("Swap(_, End)"), (9,), path=(1,))
        self.raises(NoPlace, two_fillings, sure, read("Swap(_, _)"), (), path=())
        self.raises(NoPlace, two_fillings, sure, read("Swap(_, _)"), (2,), path=(2,))
        self.raises(NoPlace, two_fillings, Sure(Pipeline(TIDY)), read("Add(Add(_, _), Add(_, _))"), (0,), path=(0,))

    def test_whole_trees(self):
        sure = Sure(Pipeline(TIDY))
        self.assertEqual(needed(sure, balanced(5)), [])
        self.raises(NoPlace, two_fillings, sure, read("Nil"), (), path=())


def cube_pipeline(many):
    """A pipeline with so many lots, and a tree with three holes."""
    names = [f"L{at}" for at in range(7)]
    table = Table("cube", ("N", "T", ("N", "N"), "(12)"), ("N", "S", ("N",), "s1"), *[("N", name, (), "abcdefg"[at]) for at, name in enumerate(names)])
    guards = names[:7] + ["S(L0)", "S(L1)", "S(L2)", "S(L3)"]
    rows = [f"S(x:{guard}) => S(L0)" for guard in guards[:many - 1]]
    states = [("a", "N", "N", ["T(x, y) => T(a(x), a(y))", "S(x) => S(a(x))", *[f"{name} => L0" for name in names[:5]], "_ => L1"]),
              ("b", "N", "N", [*rows[:7], "_ => L0"]), ("c", "N", "N", [*rows[7:], "_ => L0"])]
    return Pipeline(Stage("s", table, table, *states)), read("T(_, T(_, _))")


if __name__ == "__main__":
    unittest.main()
