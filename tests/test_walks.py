import unittest
from itertools import product

from bounds import GROWING, TWENTY_ONE, chain_pipeline, growing_stage, unfolding_pipeline, word_pipeline, LEAVES, BIG, BIGGER
from helpers import LANG, ODD, Raises, read, right_trees, terms
from samples import small_pipelines
from test_lots import MIXED, TIDY
from treeworks.errors import BadCount, BadIndex, LimitExceeded, Unknown, WrongTree
from treeworks.pipelines import Pipeline
from treeworks.stages import Stage
from treeworks.trees import Tree
from treeworks.walks import Walk

SWAP = Stage("swap", LANG, LANG, ("top", "Expr", "Expr", [
    "Add(x, y) => Add(top(y), top(x))", "Neg(x) => top(x)", "Num(d) => Num(d)", "Nil => Nil",
]))
DOUBLE = Stage("double", LANG, LANG, ("d", "Expr", "Expr", ["Neg(x) => Add(d(x), d(x))", "_ => Nil"]))
LOWER = Stage("lower", LANG, LANG, ("l", "Expr", "Expr", ["Add(x, y) => Neg(l(x))", "_ => Nil"]))
FIRST = Stage("first", LANG, LANG, ("f", "Expr", "Expr", ["Add(x, y) => f(x)", "_ => Nil"]))
COPY = Stage("copy", LANG, LANG, ("c", "Expr", "Expr", [
    "Add(x, y) => Add(c(x), c(y))", "Neg(x) => Neg(c(x))", "Num(d) => Num(d)", "Nil => Nil",
]))
MORE = Stage("more", LANG, LANG, ("m", "Expr", "Expr", [
    "Add(x, y) => Neg(Add(c(x), c(y)))", "Neg(x) => Neg(Neg(c(x)))", "Num(d) => Neg(Num(d))", "Nil => Neg(Nil)",
]), ("c", "Expr", "Expr", ["Add(x, y) => Add(c(x), c(y))", "Neg(x) => Neg(c(x))", "Num(d) => Num(d)", "Nil => Nil"]))


def negs(many, inner="Nil"):
    tree = read(inner)
    for _ in range(many):
        tree = Tree("Neg", tree)
    return tree


def balanced(levels):
    return Tree("Nil") if levels == 1 else Tree("Add", balanced(levels - 1), balanced(levels - 1))


def comb(size):
    """A tree of this odd size with few levels."""
    if size < 3:
        return Tree("Nil") if size == 1 else Tree("Neg", Tree("Nil"))
    left = (size - 1) // 2
    return Tree("Add", comb(left), comb(size - 1 - left))


def slow_visits(walk, tree):
    """The visits as the words of point 29 say, from the unfolded trees."""
    found = set()
    waiting = [((), walk.pipeline.start)]
    while waiting:
        path, word = waiting.pop()
        if (path, word) not in found:
            found.add((path, word))
            part = tree[path]
            lots = [walk.lots.lot(inner) for inner in part.parts]
            unfolded = walk.unfold(word, part.name, *lots)
            for place in unfolded.paths():
                here = unfolded[place]
                if here.name[0].islower() and here.name != "digit":
                    waiting.append(((*path, int(here.parts[0].name)), here.name))
    return found


class UnfoldTest(unittest.TestCase, Raises):
    def test_the_examples_of_the_document(self):
        walk = Walk(Pipeline(SWAP))
        self.assertEqual(walk.unfold("top", "Add", 0, 0).term, "Add(top(1), top(0))")
        walk = Walk(Pipeline(SWAP, SWAP))
        self.assertEqual(walk.unfold("top.top", "Add", 0, 0).term, "Add(top.top(0), top.top(1))")

    def test_digits_and_bare_calls(self):
        walk = Walk(Pipeline(SWAP, SWAP))
        self.assertEqual(walk.unfold("top.top", "Num", 0).term, "Num(digit(0))")
        self.assertEqual(walk.unfold("top.top", "Neg", 0).term, "top.top(0)")
        self.assertEqual(walk.unfold("top.top", "Nil").term, "Nil")

    def test_words_that_give_digits(self):
        walk = Walk(Pipeline(MIXED, MIXED))
        self.assertEqual(walk.unfold("g", "Both", 0, 0, 0).term, "digit(2)")
        self.assertEqual(walk.unfold("g", "End").term, "4")
        self.assertEqual(walk.unfold("k.g", "Both", 0, 0, 0).term, "digit(0)")
        self.assertEqual(walk.unfold("k.k", "Both", 0, 0, 0).term, "Both(k.g(1), k.k(1), g(1))")

    def test_it_depends_on_the_lots(self):
        walk = Walk(Pipeline(TIDY, TIDY))
        found = [walk.unfold("t.t", "Neg", lot).term for lot in range(walk.lots.many("Expr"))]
        self.assertEqual(found, ["Nil", "Nil", "Neg(t.t(0))"])

    def test_the_result_for_all_trees_of_the_lots(self):
        for pipeline in small_pipelines(range(25)):
            walk = Walk(pipeline)
            trees = right_trees(pipeline.source, 5)[pipeline.takes][:60]
            for tree in trees:
                lots = [walk.lots.lot(part) for part in tree.parts]
                unfolded = walk.unfold(pipeline.start, tree.name, *lots)
                self.assertEqual(self.put_in(pipeline, unfolded, tree), pipeline(tree))

    def put_in(self, pipeline, unfolded, tree):
        if unfolded.name == "digit":
            return tree.parts[int(unfolded.parts[0].name)]
        if unfolded.name[0].islower():
            return pipeline.applied(unfolded.name, tree.parts[int(unfolded.parts[0].name)])
        return Tree(unfolded.name, *[self.put_in(pipeline, part, tree) for part in unfolded.parts])

    def test_errors_in_their_order(self):
        walk = Walk(Pipeline(MIXED, MIXED))
        self.raises(Unknown, walk.unfold, "k", "Nope", 7, name="k")
        self.raises(Unknown, walk.unfold, "k.k.k", "Nope", 7, name="k.k.k")
        self.raises(Unknown, walk.unfold, "", "Nope", 7, name="")
        self.raises(Unknown, walk.unfold, "k.k", "Nope", 7, name="Nope")
        self.raises(Unknown, walk.unfold, "k.k", "Stop", 7, name="Stop")
        self.raises(Unknown, walk.unfold, "g", "3", name="3")
        self.raises(BadCount, walk.unfold, "k.k", "Swap", 99, count=1)
        self.raises(BadIndex, walk.unfold, "k.k", "Swap", 99, -1, index=99)
        self.raises(BadIndex, walk.unfold, "k.k", "Both", 0, 0, 1, index=1)

    def test_50000_names_and_one_more(self):
        walk = Walk(unfolding_pipeline("P(x, y) => P(S(f(x)), S(S(a(y))))"))
        tree = walk.unfold("a.a.a.c", "P", 0, 0)
        self.assertEqual(tree.size, 50000)
        walk = Walk(unfolding_pipeline("P(x, y) => P(S(S(f(x))), S(S(a(y))))"))
        self.raises(LimitExceeded, walk.unfold, "a.a.a.c", "P", 0, 0, limit="unfolded")

    def test_unfolded_trees_on_the_way(self):
        shrink = growing_stage("shrink", "Z")
        walk = Walk(Pipeline(*[growing_stage("big", BIGGER) for _ in range(3)], shrink))
        self.raises(LimitExceeded, walk.unfold, "a.a.a.a", "P", 0, 0, limit="unfolded")
        self.raises(LimitExceeded, walk.words, limit="unfolded")
        self.raises(LimitExceeded, walk, read("P(Z, Z)"), limit="unfolded")
        self.raises(LimitExceeded, list_visits, walk, read("P(Z, Z)"), limit="unfolded")
        self.assertEqual(walk(read("S(S(Z))")).term, "S(S(Z))")
        self.assertEqual(list(walk.visits(read("S(Z)"))), [((), "a.a.a.a"), ((0,), "a.a.a.a")])
        self.raises(WrongTree, walk, read("P(Z, _)"), path=(1,))
        self.raises(BadIndex, walk.unfold, "a.a.a.a", "P", 0, 1, index=1)

    def test_only_the_trees_that_are_needed(self):
        # The start of the last stage asks for nothing of its part.
        last = Stage("last", GROWING, GROWING, ("n", "N", "N", ["_ => Z"]))
        walk = Walk(Pipeline(growing_stage("big", BIG), last))
        self.assertEqual(walk.unfold("a.n", "P", 0, 0).term, "Z")


class WalkTest(unittest.TestCase, Raises):
    def test_attributes(self):
        pipeline = Pipeline(TIDY) * 2
        walk = Walk(pipeline)
        self.assertIs(walk.pipeline, pipeline)
        self.assertEqual(walk.lots.many("Expr"), 3)
        self.raises(LimitExceeded, Walk, chain_pipeline(LEAVES, LEAVES, LEAVES), limit="lots")

    def test_the_results_of_the_run_stage_by_stage(self):
        for pipeline in small_pipelines(range(60)):
            walk = Walk(pipeline)
            for tree in right_trees(pipeline.source, 6)[pipeline.takes][:60]:
                self.assertEqual(walk(tree), pipeline(tree))

    def test_results_on_the_way_of_any_size(self):
        pipeline = Pipeline(DOUBLE, LOWER)
        self.raises(LimitExceeded, pipeline, negs(50), limit="result")
        self.assertEqual(Walk(pipeline)(negs(50)), negs(50))
        # Results of 2 ** 60 names on the way, and the whole chain of four stages.
        self.assertEqual(Walk(Pipeline(DOUBLE, COPY, LOWER, COPY))(negs(59)), negs(59))

    def test_the_final_result_is_bounded(self):
        walk = Walk(Pipeline(MORE))
        self.assertEqual(walk(negs(58)).levels, 60)
        self.raises(LimitExceeded, walk, negs(59), limit="result")
        self.assertEqual(walk(comb(1999)).size, 2000)
        self.raises(LimitExceeded, walk, comb(2000), limit="result")
        self.raises(LimitExceeded, Walk(Pipeline(COPY, MORE)), comb(2000), limit="result")
        self.assertEqual(Walk(Pipeline(COPY))(comb(2000)).size, 2000)
        self.raises(LimitExceeded, Walk(Pipeline(DOUBLE)), negs(59), limit="result")

    def test_wrong_trees(self):
        walk = Walk(Pipeline(MIXED))
        for tree, path in [("Stop", ()), ("3", ()), ("_", ()), ("Swap(End, _)", (1,)), ("Swap(Stop, Stop)", (0,)), ("End(End)", ())]:
            self.raises(WrongTree, walk, read(tree), path=path)
            self.raises(WrongTree, list_visits, walk, read(tree), path=path)


class VisitsTest(unittest.TestCase, Raises):
    def test_each_once_and_in_order(self):
        walk = Walk(Pipeline(MIXED, MIXED))
        tree = read("Swap(Both(1, End, 2), List(Both(3, Both(4, End, 5), 6), Stop))")
        found = list(walk.visits(tree))
        self.assertEqual(found, sorted(found))
        self.assertEqual(len(found), len(set(found)))
        self.assertEqual(set(found), slow_visits(walk, tree))
        self.assertIn(((0, 1), "g"), found)

    def test_a_result_that_is_used_twice(self):
        self.assertEqual(list(Walk(Pipeline(DOUBLE)).visits(read("Neg(Neg(Nil))"))), [((), "d"), ((0,), "d"), ((0, 0), "d")])

    def test_only_what_is_needed(self):
        found = list(Walk(Pipeline(FIRST)).visits(read("Add(Add(Num(3), Nil), Nil)")))
        self.assertEqual(found, [((), "f"), ((0,), "f"), ((0, 0), "f")])

    def test_against_the_unfolded_trees(self):
        for pipeline in small_pipelines(range(40)):
            walk = Walk(pipeline)
            for tree in right_trees(pipeline.source, 6)[pipeline.takes][-20:]:
                found = list(walk.visits(tree))
                self.assertEqual(found, sorted(found))
                self.assertEqual(len(found), len(set(found)))
                self.assertEqual(set(found), slow_visits(walk, tree))

    def test_wrong_trees_when_it_is_iterated(self):
        found = Walk(Pipeline(TIDY)).visits(read("Neg(_)"))
        self.raises(WrongTree, list, found, path=(0,))

    def test_results_that_are_too_large(self):
        self.assertEqual(len(list(Walk(Pipeline(DOUBLE)).visits(negs(59)))), 60)


class WordsTest(unittest.TestCase):
    def test_ascending_order(self):
        self.assertEqual(Walk(Pipeline(MIXED)).words(), ["g", "k", "l"])
        self.assertEqual(Walk(Pipeline(MIXED, MIXED)).words(), ["g", "k.g", "k.k", "l.l"])

    def test_only_what_is_reached(self):
        stage = Stage("s", LANG, LANG, ("t", "Expr", "Expr", ["_ => Nil"]), ("u", "Expr", "Expr", ["Neg(x) => u(x)", "_ => Nil"]))
        self.assertEqual(Walk(Pipeline(stage, TIDY)).words(), ["t.t"])

    def test_more_than_twenty(self):
        self.assertEqual(len(Walk(word_pipeline(*TWENTY_ONE)).words()), 21)

    def test_from_the_visits_of_many_trees(self):
        for pipeline in small_pipelines(range(25)):
            walk = Walk(pipeline)
            words = walk.words()
            self.assertEqual(words, sorted(words))
            seen = {walk.pipeline.start}
            for tree in right_trees(walk.pipeline.source, 5)[walk.pipeline.takes][:200]:
                seen.update(word for _, word in walk.visits(tree))
            self.assertTrue(seen <= set(words))

    def test_the_list_is_new(self):
        walk = Walk(Pipeline(TIDY))
        walk.words().append("x")
        self.assertEqual(walk.words(), ["t"])


def list_visits(walk, tree):
    return list(walk.visits(tree))


if __name__ == "__main__":
    unittest.main()
