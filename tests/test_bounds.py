"""Each call at the bounds that the document names: it answers there."""

import unittest

from bounds import FORKED, LEAVES, TWENTY, chain_pipeline, line_pipeline, word_pipeline
from helpers import read
from test_walks import COPY, MORE, comb, negs
from treeworks.asking import Inquiry, Typist
from treeworks.effects import changing, effect, effect_stretches, hanging, source_stretches
from treeworks.lots import lots_of, looks, parting_look
from treeworks.outlines import needed, opening, outline, two_fillings
from treeworks.pipelines import Pipeline
from treeworks.sets import TreeSet, before
from treeworks.sharing import apart, owners, put_together
from treeworks.sure import Sure, sure_result
from treeworks.texts import text_of
from treeworks.trees import Tree
from treeworks.walks import Walk

# Four stages and 30 lots.
LARGE = chain_pipeline(LEAVES, LEAVES, LEAVES[:5], [], table=FORKED)
SURE = Sure(LARGE)


def forked(size, leaves="ABCDEF"):
    """A tree of this size with few levels and many different parts."""
    if size <= 6:
        tree = Tree(leaves[size % 6])
        for _ in range(size - 1):
            tree = Tree("S", tree)
        return tree
    left = (size - 1) * 2 // 5
    return Tree("P", forked(left, leaves), forked(size - 1 - left, leaves[1:] + leaves[:1]))


def deep(levels, inner):
    """A tree with so many levels above the inner one."""
    tree = inner
    for at in range(levels):
        tree = Tree("P", Tree("A"), tree) if at % 3 else Tree("S", tree)
    return tree


class LargeTest(unittest.TestCase):
    def test_the_pipeline(self):
        self.assertEqual((len(LARGE.stages), lots_of(LARGE).many("N"), SURE.walk.words()),
                         (4, 30, ["a.a.a.a", "b.a.a.a", "b.b.a.a", "b.b.b.a", "b.b.b.b"]))
        self.assertEqual(len(looks(LARGE.stages[0], "N")), 18)

    def test_walks(self):
        tree = forked(2000)
        self.assertEqual(tree.size, 2000)
        result = SURE.walk(tree)
        self.assertEqual(result, LARGE(tree))
        self.assertEqual(len(list(SURE.walk.visits(tree))), len(set(SURE.walk.visits(tree))))
        self.assertIsNone(parting_look(LARGE, tree, tree))
        self.assertEqual(SURE.walk(deep(59, read("B"))), LARGE(deep(59, read("B"))))

    def test_sure_results(self):
        tree = forked(2000)
        for path in [path for path in tree.paths() if not tree[path].parts][::3]:
            tree = tree.exchanged(path, Tree("_"))
        self.assertGreater(len(tree.holes()), 100)
        found = sure_result(SURE, tree)
        self.assertTrue(found.covers(SURE.walk(tree.filled(*[Tree("A") for _ in tree.holes()]))))
        place = found.holes()[-1]
        first, second = opening(SURE, tree, place)
        self.assertNotEqual(SURE.walk(first)[place].name, SURE.walk(second)[place].name)
        self.assertEqual(len(sure_result(SURE, deep(59, read("_"))).holes()), 1)
        self.assertEqual(outline(SURE, tree, *[0] * len(tree.holes())).whole, True)

    def test_needed_holes(self):
        tree = Tree("P", Tree("P", deep(57, read("_")), forked(1800)), deep(58, read("_")))
        paths = tree.holes()
        self.assertEqual(needed(SURE, tree), paths)
        for path in paths:
            first, second = two_fillings(SURE, tree, path)
            self.assertNotEqual(SURE.walk(tree.filled(*first)), SURE.walk(tree.filled(*second)))

    def test_effects(self):
        tree = forked(2000)
        result = SURE.walk(tree)
        deepest = max(tree.paths(), key=len)
        found = effect(SURE, tree, deepest)
        self.assertEqual(effect(SURE, tree, deepest, (1, 1)), sorted([*found, *effect(SURE, tree, (1, 1))]))
        self.assertEqual(effect(SURE, tree, (0, 0, 0), (1, 0), (1, 1)), [(0, 0, 0), (1, 0), (1, 1)])
        self.assertEqual(hanging(SURE, tree, (1, 1, 0)), [(1, 1, 0)])
        self.assertEqual(len(hanging(SURE, tree, max(result.paths(), key=len))), 1)
        part = changing(SURE, tree, (1, 1), (1, 1))
        self.assertNotEqual(SURE.walk(tree.exchanged((1, 1), part))[(1, 1)].name, result[(1, 1)].name)
        self.assertEqual(len(effect_stretches(SURE, tree, (0, 0, 0), (1, 0), (1, 1))), 3)
        self.assertEqual(len(source_stretches(SURE, tree, 0)), 1)

    def test_two_paths(self):
        tree = forked(2000)
        self.assertTrue(apart(SURE, tree, (0, 0, 0), (1, 1, 1, 1)))
        self.assertEqual([owner for _, owner in owners(SURE, tree, (1, 1), (0, 0))], ["second", "first"])
        both = tree.exchanged((0, 0), read("S(S(S(S(S(B)))))")).exchanged((1, 1), read("C"))
        self.assertEqual(put_together(SURE, tree, (1, 1), read("C"), (0, 0), read("S(S(S(S(S(B)))))")), SURE.walk(both))

    def test_typing_and_asking(self):
        typist = Typist(LARGE)
        for sign in "((sssssa" + "(" * 42:
            typist(sign)
        self.assertEqual((len(typist.typed), typist.told), (50, "((sa" + "(" * 42))
        first, second = typist.parting()
        self.assertNotEqual(first, second)
        inquiry = Inquiry(LARGE, Tree("P", deep(50, read("_")), Tree("P", forked(1700), Tree("_"))))
        self.assertEqual(inquiry(read("S(S(_))")), inquiry.question)
        self.assertEqual(len(inquiry.asked), 1)

    def test_sets(self):
        found = before(LARGE, TreeSet.every(FORKED, "N"))
        self.assertEqual(found.number(30), TreeSet.every(FORKED, "N").number(30))
        some = TreeSet.holding(FORKED, "N", read("P(S(S(A)), P(_, S(B)))"))
        self.assertTrue(some.nearest(comb_of("C")) is not None)
        self.assertFalse(forked(2000) in TreeSet.single(FORKED, forked(6)))
        self.assertFalse(deep(59, read("B")) in some)

    def test_twenty_words(self):
        sure = Sure(word_pipeline(*TWENTY))
        tree = read("P(_, D(_, 3, Z))")
        self.assertEqual(len(sure.walk.words()), 20)
        self.assertEqual(len(needed(sure, tree)), 2)
        found = sure_result(sure, tree)
        for place in found.holes():
            first, second = opening(sure, tree, place)
            self.assertNotEqual(sure.walk(first)[place].name, sure.walk(second)[place].name)

    def test_a_sure_line_of_400_names(self):
        sure = Sure(line_pipeline("P(P(S(b(x)), S(b(x))), b(x))"))
        self.assertEqual(sure.sure_line(sure.pipeline.start, 0).size, 400)
        self.assertEqual(len(Walk(sure.pipeline).words()), 1)

    def test_results_of_2000_names_and_60_levels(self):
        sure = Sure(Pipeline(COPY, COPY, COPY, MORE))
        self.assertEqual(sure_result(sure, comb(1999)).size, 2000)
        self.assertEqual(len(text_of(sure.pipeline.target, sure.walk(comb(1999)))) > 2000, True)
        self.assertEqual(effect(sure, comb(1999), (1,), (0, 0), (0, 1)), [(0, 0, 0), (0, 0, 1), (0, 1)])
        self.assertEqual(hanging(sure, negs(58), (0,) * 59), [(0,) * 58])
        self.assertEqual(effect(sure, negs(58), (0,) * 57, kept=True), [(0,) * 58])


def comb_of(leaf):
    tree = Tree(leaf)
    for _ in range(9):
        tree = Tree("P", tree, tree)
    return tree


if __name__ == "__main__":
    unittest.main()
