import unittest

from bounds import GROWING
from helpers import LANG, ODD, Raises, read, right_trees
from samples import small_pipelines
from test_lots import MIXED, TIDY
from test_outlines import FOLD
from test_walks import COPY, DOUBLE, FIRST, MORE, balanced, comb, negs
from treeworks.effects import changing, effect, effect_stretches, hanging, source_stretches
from treeworks.errors import BadCount, BadIndex, LimitExceeded, Mismatch, NoPlace, WrongTree
from treeworks.pipelines import Pipeline
from treeworks.stages import Stage
from treeworks.sure import Sure, sure_result
from treeworks.texts import sign_path, stretch, text_of
from treeworks.trees import Tree

ODD_COPY = Stage(
    "copy", ODD, ODD,
    ("k", "K", "K", ["Swap(x, y) => Swap(k(x), l(y))", "Both(d, x, e) => Both(d, k(x), e)", "End => End"]),
    ("l", "L", "L", ["List(x, y) => List(k(x), l(y))", "One(d, e) => One(d, e)", "Stop => Stop"]),
)
SURE = Sure(Pipeline(TIDY))
TREE = read("Add(Neg(Neg(Nil)), Add(Num(7), Nil))")


def due_at(pipeline, tree, path):
    due = pipeline.takes
    for at in path:
        due, tree = pipeline.source.maker(tree.name).wants[at], tree.parts[at]
    return due


def within(place, paths):
    return any(place[:len(path)] == path for path in paths)


def cut(tree, paths):
    for path in paths:
        tree = tree.exchanged(path, Tree("_"))
    return tree


def samples():
    for pipeline in small_pipelines(range(45)):
        sure = Sure(pipeline)
        for tree in right_trees(pipeline.source, 7)[pipeline.takes][-40::9]:
            yield sure, tree


class EffectTest(unittest.TestCase, Raises):
    def test_of_one_path(self):
        self.assertEqual(effect(SURE, TREE, (1, 0)), [(0, 1)])
        self.assertEqual(effect(SURE, TREE, (1, 0, 0)), [(0, 1, 0)])
        self.assertEqual(effect(SURE, TREE, ()), [()])
        self.assertEqual(effect(SURE, TREE, (0, 0, 0)), [(1, 0)])
        self.assertEqual(effect(Sure(Pipeline(DOUBLE)), read("Neg(Neg(Nil))"), (0, 0)), [(0, 0), (0, 1), (1, 0), (1, 1)])

    def test_of_several_paths_in_any_order(self):
        self.assertEqual(effect(SURE, TREE, (0, 0), (1, 0, 0)), [(0, 1, 0), (1,)])
        self.assertEqual(effect(SURE, TREE, (1, 0, 0), (0, 0)), [(0, 1, 0), (1,)])
        self.assertEqual(effect(SURE, TREE, (1, 1), (0,), (1, 0)), [(0, 0), (0, 1), (1,)])

    def test_of_a_path_without_effect(self):
        self.assertEqual(effect(Sure(Pipeline(FIRST)), read("Add(Nil, Nil)"), (1,)), [])
        self.assertEqual(effect(Sure(Pipeline(FIRST)), read("Add(Nil, Nil)"), (1,), kept=True), [])

    def test_against_exchanges(self):
        for sure, tree in samples():
            pipeline, result = sure.pipeline, sure.walk(tree)
            small = right_trees(pipeline.source, 4)
            for path in tree.paths():
                found = effect(sure, tree, path)
                self.assertEqual(found, sure_result(sure, tree.exchanged(path, Tree("_"))).holes())
                for part in small[due_at(pipeline, tree, path)][:8]:
                    self.assertTrue(cut(result, found).covers(sure.walk(tree.exchanged(path, part))))
                for prefix in range(len(path)):
                    outer = effect(sure, tree, path[:prefix])
                    self.assertTrue(all(within(place, outer) for place in found))

    def test_kept(self):
        self.assertEqual(effect(SURE, read("Neg(Neg(Nil))"), (0, 0)), [(0,)])
        self.assertEqual(effect(SURE, read("Neg(Neg(Nil))"), (0, 0), kept=True), [])
        self.assertEqual(effect(SURE, read("Neg(Neg(Neg(Nil)))"), (0, 0), kept=True), [(0, 0)])
        self.assertEqual(effect(SURE, TREE, (1, 0, 0), (0, 0), kept=True), [(0, 1, 0), (1, 0)])

    def test_kept_against_exchanges_of_the_same_lot(self):
        for sure, tree in samples():
            pipeline, result = sure.pipeline, sure.walk(tree)
            small = right_trees(pipeline.source, 4)
            for path in tree.paths():
                found = effect(sure, tree, path, kept=True)
                self.assertTrue(all(within(place, effect(sure, tree, path)) for place in found))
                lot = sure.walk.lots.lot(tree[path])
                changed = []
                for part in small[due_at(pipeline, tree, path)]:
                    if sure.walk.lots.lot(part) == lot:
                        new = sure.walk(tree.exchanged(path, part))
                        self.assertTrue(cut(result, found).covers(new))
                        changed.extend(place for place in found if new[place].name != result[place].name)
                if len(small[due_at(pipeline, tree, path)]) > 20:
                    self.assertTrue(set(changed) <= set(found))

    def test_the_list_is_new(self):
        found = effect(SURE, TREE, (1, 0))
        found.append("x")
        self.assertEqual(effect(SURE, TREE, (1, 0)), [(0, 1)])

    def test_errors_in_their_order(self):
        self.raises(WrongTree, effect, SURE, read("Neg(_)"), path=(0,))
        self.raises(WrongTree, effect, Sure(Pipeline(MIXED)), read("Stop"), (9,), path=())
        more = Sure(Pipeline(MORE))
        for call in (effect, effect_stretches):
            self.raises(LimitExceeded, call, more, comb(2000), limit="result")
            self.raises(LimitExceeded, call, more, negs(59), (9,), limit="result")
            self.raises(BadCount, call, SURE, TREE, count=0)
            self.raises(BadCount, call, SURE, TREE, (9,), (), (), (0,), count=4)
            self.raises(NoPlace, call, SURE, TREE, (0,), (0, 0), (1, 2), path=(1, 2))
            self.raises(NoPlace, call, SURE, TREE, (-1,), (9,), path=(-1,))
            self.raises(NoPlace, call, SURE, TREE, (1, 0, 0, 0), path=(1, 0, 0, 0))
            for paths in [((0,), (0, 0)), ((0, 0), (0,)), ((1, 0), (0,), (1, 0)), ((), (0,)), ((), ())]:
                self.raises(Mismatch, call, SURE, TREE, *paths)
        self.assertEqual(effect(more, comb(1999), (1,)), [(0, 1)])

    def test_effects_that_cannot_be_computed(self):
        # The result is small for the present part, but too large for another one.
        stage = Stage("s", LANG, LANG, ("s", "Expr", "Expr", ["Add(x:Nil, y) => Nil", "Add(x, y) => Add(c(y), c(y))", "_ => Nil"]),
                      ("c", "Expr", "Expr", ["Add(x, y) => Add(c(x), c(y))", "Neg(x) => Neg(c(x))", "Num(d) => Num(d)", "Nil => Nil"]))
        sure = Sure(Pipeline(stage))
        tree = Tree("Add", Tree("Nil"), comb(1001))
        self.raises(LimitExceeded, effect, sure, tree, (0,), limit="result")
        self.raises(LimitExceeded, effect_stretches, sure, tree, (0,), limit="result")
        self.raises(LimitExceeded, changing, sure, tree, (0,), (9,), limit="result")
        self.raises(NoPlace, effect, sure, tree, (9,), path=(9,))
        # For parts of the same lot nothing is too large.
        self.assertEqual(effect(sure, tree, (0,), kept=True), [])
        self.raises(LimitExceeded, hanging, sure, tree, (), limit="result")
        self.raises(LimitExceeded, source_stretches, sure, tree, 0, limit="result")
        self.raises(BadIndex, source_stretches, sure, tree, 1, index=1)
        self.assertEqual(effect(Sure(Pipeline(MORE)), negs(58), (0,) * 58), [(0,) * 59])

    def test_kept_effects_that_cannot_be_computed(self):
        # The outline has a mark of two levels.
        with self.assertRaises(LimitExceeded) as caught:
            effect(Sure(Pipeline(MORE)), negs(58), (0,) * 58, kept=True)
        self.assertEqual(caught.exception.limit, "result")

    def test_a_pipeline_that_is_put_together(self):
        first, second = Pipeline(TIDY), Pipeline(FOLD)
        for path in TREE.paths():
            steps = sure_result(Sure(second), sure_result(Sure(first), TREE.exchanged(path, Tree("_")))).holes()
            self.assertTrue(all(within(place, steps) for place in effect(Sure(first + second), TREE, path)))


class HangingTest(unittest.TestCase, Raises):
    def test_against_the_effects_of_all_paths(self):
        for sure, tree in samples():
            effects = {path: effect(sure, tree, path) for path in tree.paths()}
            for place in sure.walk(tree).paths():
                here = [path for path in effects if within(place, effects[path])]
                deepest = [path for path in here if not any(other != path and other[:len(path)] == path for other in here)]
                self.assertEqual(hanging(sure, tree, place), deepest)

    def test_examples(self):
        self.assertEqual(hanging(SURE, TREE, (1, 0)), [(0, 0, 0)])
        self.assertEqual(hanging(SURE, TREE, (0, 1, 0)), [(1, 0, 0)])
        self.assertEqual(hanging(SURE, TREE, ()), [()])
        always = Stage("always", LANG, LANG, ("a", "Expr", "Expr", ["_ => Neg(Nil)"]))
        self.assertEqual(hanging(Sure(Pipeline(always)), read("Nil"), (0,)), [])

    def test_several_paths(self):
        fold = Sure(Pipeline(FOLD))
        self.assertEqual(hanging(fold, read("Neg(Add(Nil, Nil))"), (0,)), [(0, 0), (0, 1)])

    def test_errors_in_their_order(self):
        self.raises(WrongTree, hanging, SURE, read("_"), (9,), path=())
        self.raises(LimitExceeded, hanging, Sure(Pipeline(MORE)), negs(59), (9,), limit="result")
        self.raises(NoPlace, hanging, SURE, TREE, (2,), path=(2,))
        self.raises(NoPlace, hanging, SURE, TREE, (-1,), path=(-1,))
        self.raises(NoPlace, hanging, SURE, TREE, (1, 0, 0, 0), path=(1, 0, 0, 0))

    def test_effects_ahead_of_the_place(self):
        triple = Stage("triple", GROWING, GROWING, ("a", "N", "N", ["S(x) => S(S(S(a(x))))", "P(x, y) => Z", "Z => Z"]))
        # The second state only shows which trees are an `S`.
        first = Stage("first", GROWING, GROWING, ("a", "N", "N", ["S(x) => S(S(S(S(Z))))", "_ => Z"]),
                      ("b", "N", "N", ["S(S(_)) => Z", "_ => Z"]))
        sure = Sure(Pipeline(first, triple, triple, triple))
        self.assertEqual(sure.walk(read("Z")).term, "Z")
        for place in [(), (9,)]:
            self.raises(LimitExceeded, hanging, sure, read("Z"), place, limit="result")
        self.raises(LimitExceeded, changing, sure, read("Z"), (), (9,), limit="result")
        self.raises(NoPlace, changing, sure, read("Z"), (9,), (), path=(9,))

    def test_a_large_tree(self):
        sure = Sure(Pipeline(COPY))
        self.assertEqual(hanging(sure, comb(1999), (1, 0, 1)), [(1, 0, 1)])
        self.assertEqual(hanging(sure, negs(59), (0,) * 59), [(0,) * 59])


class ChangingTest(unittest.TestCase, Raises):
    def test_it_changes_the_name(self):
        for sure, tree in samples():
            result = sure.walk(tree)
            for path in tree.paths():
                for place in effect(sure, tree, path):
                    part = changing(sure, tree, path, place)
                    sure.pipeline.source.check(part, due_at(sure.pipeline, tree, path))
                    self.assertNotEqual(sure.walk(tree.exchanged(path, part))[place].name, result[place].name)

    def test_the_size_of_the_part(self):
        sure = Sure(Pipeline(TIDY) * 4)
        for path in TREE.paths():
            for place in effect(sure, TREE, path):
                part = changing(sure, TREE, path, place)
                self.assertTrue(part.size <= 2000 and part.levels <= 60)

    def test_digits(self):
        part = changing(SURE, TREE, (1, 0, 0), (0, 1, 0))
        self.assertIn(part.term, list("012345689"))

    def test_errors_in_their_order(self):
        self.raises(WrongTree, changing, SURE, read("3"), (9,), (9,), path=())
        self.raises(LimitExceeded, changing, Sure(Pipeline(MORE)), negs(59), (9,), (9,), limit="result")
        self.raises(NoPlace, changing, SURE, TREE, (2,), (9,), path=(2,))
        self.raises(NoPlace, changing, SURE, TREE, (1, 0), (9,), path=(9,))
        self.raises(NoPlace, changing, SURE, TREE, (1, 0), (0, 1, 0), path=(0, 1, 0))
        self.raises(NoPlace, changing, SURE, TREE, (1, 0), (0,), path=(0,))


class StretchTest(unittest.TestCase, Raises):
    def test_of_effects(self):
        text = text_of(LANG, SURE.walk(TREE))
        self.assertEqual(text, "((z+7)+-z)")
        self.assertEqual(effect_stretches(SURE, TREE, (1, 0)), [(4, 5)])
        self.assertEqual(effect_stretches(SURE, TREE, (1, 0), (0, 0)), [(4, 5), (7, 9)])
        self.assertEqual(effect_stretches(SURE, TREE, ()), [(0, 10)])
        self.assertEqual(effect_stretches(Sure(Pipeline(FIRST)), read("Add(Nil, Nil)"), (1,)), [])

    def test_against_the_stretches_of_the_places(self):
        for sure, tree in samples():
            result, target = sure.walk(tree), sure.pipeline.target
            for path in tree.paths():
                found = effect_stretches(sure, tree, path)
                self.assertEqual(found, sorted(stretch(target, result, place) for place in effect(sure, tree, path)))
                self.assertTrue(all(one[1] <= other[0] for one, other in zip(found, found[1:])))

    def test_parts_in_another_order_in_the_text(self):
        sure = Sure(Pipeline(ODD_COPY))
        tree = read("Swap(Both(1, End, 2), List(End, One(3, 4)))")
        self.assertEqual((sure.walk(tree), text_of(ODD, tree)), (tree, "<[e:4;3,2ae b1>".replace(" ", "")))
        self.assertEqual(effect(sure, tree, (1, 1), (0, 2)), [(0, 2), (1, 1)])
        self.assertEqual(effect_stretches(sure, tree, (1, 1), (0, 2)), [(4, 7), (8, 9)])
        self.assertEqual(effect_stretches(sure, tree, (0,), (1, 0)), [(2, 3), (8, 13)])

    def test_sources(self):
        # The text of the tree is `(--z+(7+z))`, that of the result `((z+7)+-z)`.
        self.assertEqual(source_stretches(SURE, TREE, 4), [(6, 7)])
        self.assertEqual(source_stretches(SURE, TREE, 8), [(3, 4)])
        self.assertEqual(source_stretches(SURE, TREE, 0), [(0, 11)])
        fold = Sure(Pipeline(FOLD))
        self.assertEqual(source_stretches(fold, read("Neg(Add(Nil, Nil))"), 1), [(2, 3), (4, 5)])

    def test_sources_against_what_hangs(self):
        for sure, tree in samples():
            result, pipeline = sure.walk(tree), sure.pipeline
            for index in range(len(text_of(pipeline.target, result))):
                place = sign_path(pipeline.target, result, index)
                wanted = sorted(stretch(pipeline.source, tree, path) for path in hanging(sure, tree, place))
                self.assertEqual(source_stretches(sure, tree, index), wanted)

    def test_sources_in_the_order_of_the_text(self):
        stage = Stage("s", ODD, ODD, ("s", "K", "K", ["Swap(End, Stop) => End", "Swap(x, y) => Swap(End, Stop)", "_ => End"]))
        # In the text of a `Swap` its second part comes first.
        tree = read("Swap(End, Stop)")
        self.assertEqual(text_of(ODD, tree), "<.,e>")
        self.assertEqual(hanging(Sure(Pipeline(stage)), tree, ()), [(0,), (1,)])
        self.assertEqual(source_stretches(Sure(Pipeline(stage)), tree, 0), [(1, 2), (3, 4)])

    def test_indexes(self):
        for index in (-1, 10, 99):
            self.raises(BadIndex, source_stretches, SURE, TREE, index, index=index)
        self.raises(WrongTree, source_stretches, SURE, read("_"), 99, path=())
        self.raises(LimitExceeded, source_stretches, Sure(Pipeline(MORE)), negs(59), 999, limit="result")

    def test_bounds(self):
        sure = Sure(Pipeline(COPY))
        self.assertEqual(len(effect_stretches(sure, comb(2000), (0, 0), (0, 1), (1,))), 3)
        self.assertEqual(effect_stretches(sure, negs(59), (0,) * 59), [(59, 60)])
        self.assertEqual(len(effect_stretches(Sure(Pipeline(DOUBLE)), negs(8), (0,) * 8)), 256)
        self.assertEqual(balanced(4).levels, 4)


if __name__ == "__main__":
    unittest.main()
