import unittest
from itertools import product

from bounds import FORKED, LEAVES, chain_pipeline
from helpers import LANG, Raises, read, right_trees
from samples import small_pipelines
from test_effects import ODD_COPY, due_at
from test_lots import MIXED, TIDY
from test_outlines import FOLD
from test_walks import COPY, FIRST, MORE, comb, negs
from treeworks.effects import effect
from treeworks.errors import LimitExceeded, Mismatch, NoPlace, NotApart, WrongTree
from treeworks.pipelines import Pipeline
from treeworks.sharing import apart, clash, owners, put_together
from treeworks.stages import Stage
from treeworks.sure import Sure, sure_result
from treeworks.trees import Tree

SURE = Sure(Pipeline(FOLD))
# The parts are exchanged for each other, and one part of the result depends on both.
CROSS = Stage("cross", LANG, LANG, ("s", "Expr", "Expr", [
    "Add(x:Nil, y:Nil) => Add(Add(c(y), Neg(Nil)), c(x))", "Add(x, y) => Add(Add(c(y), Nil), c(x))", "_ => Nil",
]), ("c", "Expr", "Expr", ["Add(x, y) => Add(c(x), c(y))", "Neg(x) => Neg(c(x))", "Num(d) => Num(d)", "Nil => Nil"]))


def pairs_of_paths(tree):
    paths = list(tree.paths())
    return [(one, other) for one, other in product(paths, repeat=2) if one[:len(other)] != other and other[:len(one)] != one]


# Pipelines for which some places depend on two paths, and others.
SEEDS = [32, 43, 67, 127, 222, 260, 140, 198, *range(12)]


def samples():
    for pipeline in small_pipelines(SEEDS):
        sure = Sure(pipeline)
        for tree in right_trees(pipeline.source, 7)[pipeline.takes][-40::9]:
            for first, second in pairs_of_paths(tree)[::7]:
                yield sure, tree, first, second


def results_of(sure, tree, first, second, most=7):
    """The results for exchanges of both parts, by the indexes of the parts, and these parts."""
    small = right_trees(sure.pipeline.source, 4)
    parts = small[due_at(sure.pipeline, tree, first)][:most]
    others = small[due_at(sure.pipeline, tree, second)][:most]
    results = {
        (at, to): sure.walk(tree.exchanged(first, part).exchanged(second, other))
        for (at, part), (to, other) in product(enumerate(parts), enumerate(others))
    }
    return results, parts, others


class OwnersTest(unittest.TestCase, Raises):
    def test_the_example(self):
        self.assertEqual(
            [owners(SURE, read("Add(Neg(Nil), Num(7))"), (0, 0), (1, 0)), owners(SURE, read("Neg(Add(Nil, Nil))"), (0, 0), (0, 1))],
            [[((0, 0), "first"), ((1, 0), "second")], [((0,), "both")]],
        )

    def test_against_exchanges(self):
        for sure, tree, first, second in samples():
            found = owners(sure, tree, first, second)
            self.assertEqual([place for place, _ in found], effect(sure, tree, first, second))
            results, parts, others = results_of(sure, tree, first, second)
            for place, owner in found:
                on_first = any(len({results[at, to][place].term for at in range(len(parts))}) > 1 for to in range(len(others)))
                on_second = any(len({results[at, to][place].term for to in range(len(others))}) > 1 for at in range(len(parts)))
                self.assertIn(owner, ("first", "second", "both"))
                self.assertFalse(on_first and owner == "second")
                self.assertFalse(on_second and owner == "first")

    def test_the_paths_exchanged(self):
        turned = {"first": "second", "second": "first", "both": "both"}
        for sure, tree, first, second in samples():
            found = owners(sure, tree, first, second)
            self.assertEqual(owners(sure, tree, second, first), [(place, turned[owner]) for place, owner in found])

    def test_all_three(self):
        tree = read("Add(Num(1), Num(2))")
        sure = Sure(Pipeline(CROSS))
        self.assertEqual(owners(sure, tree, (0,), (1,)), [((0, 0), "second"), ((0, 1), "both"), ((1,), "first")])
        self.assertEqual(owners(sure, tree, (1,), (0,)), [((0, 0), "first"), ((0, 1), "both"), ((1,), "second")])

    def test_no_place(self):
        self.assertEqual(owners(Sure(Pipeline(FIRST)), read("Add(Nil, Add(Nil, Nil))"), (1, 0), (1, 1)), [])

    def test_digits(self):
        tree = read("Both(1, Both(2, End, 3), 4)")
        self.assertEqual(owners(Sure(Pipeline(ODD_COPY)), tree, (1, 0), (0,)), [((0,), "second"), ((1, 0), "first")])
        self.assertEqual(owners(Sure(Pipeline(MIXED)), tree, (0,), (1, 2)), [((0,), "second"), ((2,), "first")])

    def test_errors_in_their_order(self):
        for call in (owners, apart, lambda *given: clash(*given, (9,)), lambda *given: put_together(*given[:3], read("_"), given[3], read("_"))):
            self.raises(WrongTree, call, SURE, read("Neg(_)"), (9,), (9,), path=(0,))
            self.raises(LimitExceeded, call, Sure(Pipeline(MORE)), negs(59), (9,), (9,), limit="result")
            self.raises(NoPlace, call, SURE, read("Add(Nil, Nil)"), (0,), (2,), path=(2,))
            self.raises(NoPlace, call, SURE, read("Add(Nil, Nil)"), (3,), (2,), path=(3,))
            self.raises(Mismatch, call, SURE, read("Add(Nil, Nil)"), (0,), ())
            self.raises(Mismatch, call, SURE, read("Add(Nil, Nil)"), (0,), (0,))

    def test_effects_and_outlines_that_are_too_large(self):
        sure = Sure(Pipeline(MORE))
        tree = negs(56, "Add(Nil, Nil)")
        # The sure result for the tree with both holes has 59 levels, and a mark in its outline one more.
        paths = (0,) * 56 + (0,), (0,) * 56 + (1,)
        self.assertEqual(owners(sure, tree, *paths), [((0,) + paths[0], "first"), ((0,) + paths[1], "second")])
        tree = negs(57, "Add(Nil, Nil)")
        paths = (0,) * 57 + (0,), (0,) * 57 + (1,)
        self.assertEqual(effect(sure, tree, *paths), [(0,) + paths[0], (0,) + paths[1]])
        for call in (owners, apart):
            self.raises(LimitExceeded, call, sure, tree, *paths, limit="result")
        self.raises(LimitExceeded, clash, sure, tree, *paths, (9,), limit="result")
        self.raises(LimitExceeded, put_together, sure, tree, paths[0], read("Nil"), paths[1], read("Nil"), limit="result")
        self.raises(WrongTree, put_together, sure, tree, paths[0], read("Nil"), paths[1], read("Neg(_)"), path=(0,))

    def test_nine_hundred_choices(self):
        sure = Sure(chain_pipeline(LEAVES, LEAVES, LEAVES[:5], table=FORKED))
        self.assertEqual(sure.walk.lots.many("N"), 30)
        tree = read("P(S(A), P(S(S(B)), C))")
        self.assertEqual(owners(sure, tree, (1, 0), (0,)), [((0,), "second"), ((1, 0), "first")])
        self.assertEqual(put_together(sure, tree, (0,), read("S(S(D))"), (1, 0), read("E")), sure.walk(read("P(S(S(D)), P(E, C))")))


class ApartTest(unittest.TestCase, Raises):
    def test_as_the_owners_say(self):
        for sure, tree, first, second in samples():
            found = [owner for _, owner in owners(sure, tree, first, second)]
            self.assertIs(apart(sure, tree, first, second), "both" not in found)

    def test_put_together(self):
        for sure, tree, first, second in samples():
            results, parts, others = results_of(sure, tree, first, second, 4)
            for (at, part), (to, other) in product(enumerate(parts), enumerate(others)):
                if apart(sure, tree, first, second):
                    self.assertEqual(put_together(sure, tree, first, part, second, other), results[at, to])
                else:
                    self.raises(NotApart, put_together, sure, tree, first, part, second, other)

    def test_one_result_alone_is_too_large(self):
        sure = Sure(Pipeline(MORE))
        tree = Tree("Add", comb(601), comb(801))
        self.assertEqual(put_together(sure, tree, (0,), comb(999), (1,), comb(999)).size, 2000)
        self.raises(LimitExceeded, put_together, sure, tree, (0,), comb(999), (1,), comb(1000), limit="result")
        self.raises(LimitExceeded, put_together, sure, tree, (0,), comb(1301), (1,), comb(3), limit="result")
        self.raises(LimitExceeded, put_together, sure, tree, (1,), comb(3), (0,), comb(1301), limit="result")

    def test_levels(self):
        sure = Sure(Pipeline(MORE))
        tree = read("Add(Nil, Nil)")
        self.assertEqual(put_together(sure, tree, (0,), negs(57), (1,), negs(57)).levels, 60)
        self.raises(LimitExceeded, put_together, sure, tree, (0,), negs(58), (1,), negs(57), limit="result")

    def test_many_copies(self):
        # Each part alone leads to few names, but both together to more.
        double = Stage("double", LANG, LANG, ("d", "Expr", "Expr", [
            "Add(x, y) => Add(Add(c(x), c(x)), Add(c(y), c(y)))", "_ => Nil"]), ("c", "Expr", "Expr", [
                "Add(x, y) => Add(c(x), c(y))", "Neg(x) => Neg(c(x))", "Num(d) => Num(d)", "Nil => Nil"]))
        sure = Sure(Pipeline(double))
        tree = read("Add(Nil, Nil)")
        self.assertEqual(put_together(sure, tree, (0,), comb(499), (1,), comb(499)).size, 1999)
        self.raises(LimitExceeded, put_together, sure, tree, (0,), comb(500), (1,), comb(500), limit="result")

    def test_wrong_parts_first_ahead_of_second(self):
        tree = read("Both(1, End, 2)")
        sure = Sure(Pipeline(ODD_COPY))
        self.raises(WrongTree, put_together, sure, tree, (0,), read("End"), (1,), read("Both(1, Stop, 2)"), path=())
        self.raises(WrongTree, put_together, sure, tree, (0,), read("7"), (1,), read("Both(1, Stop, 2)"), path=(1,))
        self.raises(WrongTree, put_together, sure, tree, (0,), read("7"), (1,), read("_"), path=())
        self.raises(WrongTree, put_together, sure, tree, (0,), read("_"), (1,), read("End"), path=())
        self.assertEqual(put_together(sure, tree, (1,), read("Swap(End, Stop)"), (0,), read("7")).term, "Both(7, Swap(End, Stop), 2)")

    def test_wrong_parts_ahead_of_not_apart(self):
        tree = read("Neg(Add(Nil, Nil))")
        self.raises(WrongTree, put_together, SURE, tree, (0, 0), read("Nil"), (0, 1), read("4"), path=())
        self.raises(NotApart, put_together, SURE, tree, (0, 0), read("Nil"), (0, 1), read("Nil"))


class ClashTest(unittest.TestCase, Raises):
    def check(self, sure, tree, first, second, place):
        one, two = clash(sure, tree, first, second, place)
        for part, other in (one, two):
            sure.pipeline.source.check(part, due_at(sure.pipeline, tree, first))
            sure.pipeline.source.check(other, due_at(sure.pipeline, tree, second))
        alone = sure.walk(tree.exchanged(first, one[0]))
        both = sure.walk(tree.exchanged(first, one[0]).exchanged(second, one[1]))
        self.assertNotEqual(both[place], alone[place])
        alone = sure.walk(tree.exchanged(second, two[1]))
        both = sure.walk(tree.exchanged(first, two[0]).exchanged(second, two[1]))
        self.assertNotEqual(both[place], alone[place])

    def test_what_it_shows(self):
        shown = 0
        for sure, tree, first, second in samples():
            for place, owner in owners(sure, tree, first, second):
                if owner == "both":
                    self.check(sure, tree, first, second, place)
                    self.check(sure, tree, second, first, place)
                    shown += 1
        self.assertGreater(shown, 3)

    def test_examples(self):
        self.check(SURE, read("Neg(Add(Nil, Nil))"), (0, 1), (0, 0), (0,))
        self.check(SURE, read("Neg(Add(Neg(Nil), Num(7)))"), (0, 1), (0, 0), (0,))
        self.check(Sure(Pipeline(CROSS)), read("Add(Num(1), Num(2))"), (0,), (1,), (0, 1))
        self.check(Sure(Pipeline(CROSS)), read("Add(Nil, Nil)"), (1,), (0,), (0, 1))

    def test_the_size_of_the_parts(self):
        for first, second in clash(Sure(Pipeline(CROSS)), read("Add(Nil, Nil)"), (0,), (1,), (0, 1)):
            self.assertTrue(first.size <= 2000 and first.levels <= 60 and second.size <= 2000 and second.levels <= 60)

    def test_no_place(self):
        sure = Sure(Pipeline(CROSS))
        tree = read("Add(Num(1), Num(2))")
        for place in [(), (0,), (0, 0), (1,), (0, 1, 0), (2,)]:
            self.raises(NoPlace, clash, sure, tree, (0,), (1,), place, path=place)

    def test_the_sure_result_with_both_holes(self):
        for sure, tree, first, second in samples():
            holed = tree.exchanged(first, Tree("_")).exchanged(second, Tree("_"))
            self.assertEqual([place for place, _ in owners(sure, tree, first, second)], sure_result(sure, holed).holes())

    def test_a_large_tree(self):
        sure = Sure(Pipeline(COPY, TIDY))
        self.assertTrue(apart(sure, comb(1999), (0, 0), (1, 0)))


if __name__ == "__main__":
    unittest.main()
