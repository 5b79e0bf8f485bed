import unittest

from helpers import LANG, Raises, read, right_trees
from treeworks.errors import BadCount, BadStage, LimitExceeded, Unknown, WrongSign, WrongTree
from treeworks.pipelines import Pipeline
from treeworks.stages import Stage
from treeworks.tables import Table
from treeworks.trees import Tree

TIDY = Stage("tidy", LANG, LANG, ("t", "Expr", "Expr", [
    "Neg(Nil) => Nil", "Neg(x) => Neg(t(x))", "Add(x, y) => Add(t(y), t(x))", "Num(d) => Num(d)", "Nil => Nil"]))
DUO = Table.read("table duo\nA: P A B = (12)\nA: E = e\nB: Q digit = q1\nB: R A = r1")
TO_DUO = Stage("to", LANG, DUO,
               ("a", "Expr", "A", ["Add(x, y) => P(a(x), b(y))", "Num(n) => P(E, Q(n))", "_ => E"]),
               ("b", "Expr", "B", ["Num(n) => Q(n)", "Add(x, y) => Q(d(y))", "_ => R(E)"]),
               ("d", "Expr", "digit", ["Num(n) => n", "Neg(x) => d(x)", "_ => 5"]))
BACK = Stage("back", DUO, LANG,
             ("m", "A", "Expr", ["P(x, y) => Add(n(y), m(x))", "E => Nil"]),
             ("n", "B", "Expr", ["Q(d) => Num(d)", "R(x) => Neg(m(x))"]),
             ("z", "B", "digit", ["Q(d) => d", "_ => 0"]))
P = Table.read("table p\nK: S K = s1\nK: P K K = (12)\nK: D digit = d1\nK: Z = z")
DOUBLE = Stage("double", P, P, ("a", "K", "K", ["S(x) => P(a(x), a(x))", "P(x, y) => P(a(x), a(y))", "D(n) => P(D(n), D(3))", "Z => Z"]))
FIRST = Stage("first", P, P, ("f", "K", "K", ["P(x, y) => S(f(x))", "S(x) => S(f(x))", "D(n) => D(n)", "Z => Z"]))


class PipelineTest(unittest.TestCase, Raises):
    def test_attributes(self):
        pipeline = Pipeline(TIDY, TO_DUO, BACK)
        self.assertEqual(pipeline.stages, (TIDY, TO_DUO, BACK))
        self.assertEqual((pipeline.source, pipeline.target, pipeline.takes, pipeline.gives), (LANG, LANG, "Expr", "Expr"))
        self.assertEqual((pipeline.title, pipeline.start), ("tidy.to.back", "t.a.m"))
        pipeline = Pipeline(TO_DUO)
        self.assertEqual((pipeline.source, pipeline.target, pipeline.takes, pipeline.gives), (LANG, DUO, "Expr", "A"))
        self.assertEqual((pipeline.title, pipeline.start, Pipeline.MOST_STAGES), ("to", "a", 4))
        self.assertEqual(list(Pipeline(TIDY, TO_DUO)), [TIDY, TO_DUO])

    def test_number_of_stages(self):
        self.raises(BadCount, Pipeline, count=0)
        self.raises(BadCount, Pipeline, *([TIDY] * 5), count=5)
        self.raises(BadCount, Pipeline, *([BACK] * 6), count=6)
        for many in (1, 2, 3, 4):
            self.assertEqual(len(Pipeline(*([TIDY] * many)).stages), many)

    def test_stages_that_do_not_fit(self):
        self.raises(BadStage, Pipeline, BACK, BACK, index=1)
        self.raises(BadStage, Pipeline, TIDY, TO_DUO, TIDY, BACK, index=2)
        self.raises(BadStage, Pipeline, TO_DUO, BACK, TO_DUO, TO_DUO, index=3)
        other = Stage("other", DUO, DUO, ("b", "B", "B", ["_ => Q(0)"]))
        self.raises(BadStage, Pipeline, TO_DUO, other, index=1)
        self.assertEqual(Pipeline(other, other).takes, "B")
        # A table with an equal description will do, one with the same name alone will not.
        again = Stage("again", Table.read(LANG.description), LANG, ("a", "Expr", "Expr", ["_ => Nil"]))
        self.assertEqual(Pipeline(TIDY, again).title, "tidy.again")
        alike = Table.read(LANG.description.replace("= z", "= y"))
        self.raises(BadStage, Pipeline, TIDY, Stage("again", alike, alike, ("a", "Expr", "Expr", ["_ => Nil"])), index=1)

    def test_results(self):
        pipeline = Pipeline(TIDY, TO_DUO, BACK)
        for tree in right_trees(LANG, 5)["Expr"]:
            self.assertEqual(pipeline(tree), BACK(TO_DUO(TIDY(tree))))
        self.assertEqual(pipeline(read("Add(Num(4), Neg(Neg(Nil)))")).term, "Add(Num(4), Nil)")

    def test_wrong_trees(self):
        pipeline = Pipeline(TO_DUO, BACK)
        for term, path in (("E", ()), ("Add(Nil, _)", (1,)), ("7", ()), ("Neg(Num(Nil))", (0, 0))):
            for call in (pipeline, pipeline.origins, lambda tree: pipeline.applied("a.m", tree)):
                self.raises(WrongTree, call, read(term), path=path)

    def test_translated(self):
        self.assertEqual(Pipeline(TIDY).translated("(-z+3)"), "(3+z)")
        self.assertEqual(Pipeline(TO_DUO).translated("((1+2)+-(4+5))"), "(((eq1)q2)re)")
        self.raises(WrongSign, Pipeline(TIDY).translated, "(z-z)", at=2, expected="+")
        self.raises(LimitExceeded, Pipeline(TIDY).translated, "-" * 61, limit="levels")
        self.raises(LimitExceeded, Pipeline(DOUBLE).translated, "s" * 12 + "z", limit="result")

    def test_results_between_the_stages(self):
        chain = "S(" * 11 + "Z" + ")" * 11
        # 2 ** 12 - 1 names between the stages, 12 behind them.
        for call in (Pipeline(DOUBLE, FIRST), Pipeline(DOUBLE, FIRST).origins, Pipeline(FIRST, DOUBLE),
                     lambda tree: Pipeline(DOUBLE, FIRST).applied("a.f", tree)):
            self.raises(LimitExceeded, call, read(chain), limit="result")
        short = read("S(" * 9 + "Z" + ")" * 9)
        self.assertEqual(Pipeline(DOUBLE, FIRST)(short), short)
        self.raises(LimitExceeded, Pipeline(DOUBLE), read("S(" * 40 + "Z" + ")" * 40), limit="result")

    def test_equality(self):
        self.assertEqual(Pipeline(TIDY, TIDY), Pipeline(TIDY, TIDY))
        self.assertEqual(Pipeline(TIDY), Pipeline(Stage.read(TIDY.description, Table.read(LANG.description))))
        self.assertNotEqual(Pipeline(TIDY), Pipeline(TIDY, TIDY))
        self.assertNotEqual(Pipeline(TIDY, TO_DUO), Pipeline(TO_DUO))
        self.assertFalse(Pipeline(TIDY) == TIDY)

    def test_equality_looks_at_all_tables(self):
        mine = Table.read("table m\nK: S K = s1\nK: Z = z")
        other = Table.read("table m\nK: S K = t1\nK: Z = z")
        end = Table.read("table e\nK: S K = s1\nK: Z = z")
        states = ("a", "K", "K", ["S(x) => S(a(x))", "_ => Z"])
        by_mine = Pipeline(Stage("one", end, mine, states), Stage("two", mine, end, states))
        by_other = Pipeline(Stage("one", end, other, states), Stage("two", other, end, states))
        self.assertNotEqual(by_mine, by_other)
        self.assertEqual([stage.description for stage in by_mine], [stage.description for stage in by_other])
        self.assertNotEqual(Pipeline(Stage("one", mine, end, states)), Pipeline(Stage("one", other, end, states)))
        self.assertNotEqual(Pipeline(Stage("one", end, mine, states)), Pipeline(Stage("one", end, other, states)))

    def test_putting_together(self):
        both = Pipeline(TIDY) + Pipeline(TO_DUO, BACK)
        self.assertEqual(both, Pipeline(TIDY, TO_DUO, BACK))
        self.assertIsInstance(both, Pipeline)
        self.assertEqual(Pipeline(TIDY) * 3, Pipeline(TIDY, TIDY, TIDY))
        self.assertEqual(2 * Pipeline(TO_DUO, BACK), Pipeline(TO_DUO, BACK, TO_DUO, BACK))
        self.assertEqual(Pipeline(TIDY) * 1, Pipeline(TIDY))
        self.assertEqual(4 * Pipeline(TIDY), Pipeline(TIDY) * 4)

    def test_putting_together_what_does_not_fit(self):
        self.raises(BadStage, Pipeline(TIDY).__add__, Pipeline(BACK), index=1)
        self.raises(BadStage, Pipeline(TIDY, TO_DUO).__add__, Pipeline(TIDY, TO_DUO), index=2)
        self.raises(BadCount, Pipeline(TIDY, TIDY).__add__, Pipeline(TIDY, TIDY, TIDY), count=5)
        self.raises(BadStage, Pipeline(TO_DUO).__mul__, 2, index=1)
        self.raises(BadStage, Pipeline(TIDY, TO_DUO).__rmul__, 2, index=2)
        self.raises(BadCount, Pipeline(TIDY, TIDY).__mul__, 3, count=6)
        self.raises(BadCount, Pipeline(TO_DUO, BACK).__rmul__, 4, count=8)


class WordsTest(unittest.TestCase, Raises):
    PIPELINE = Pipeline(TIDY, TO_DUO, BACK)

    def test_words(self):
        tree = read("Add(Neg(Num(4)), Add(Num(1), Neg(Num(2))))")
        tidied = TIDY(tree)
        for word, result in (
            ("t.a.m", BACK(TO_DUO(tidied))), ("t.b.n", BACK.run("n", TO_DUO.run("b", tidied))),
            ("t.b.z", BACK.run("z", TO_DUO.run("b", tidied))), ("t.d", TO_DUO.run("d", tidied)),
        ):
            self.assertEqual(self.PIPELINE.applied(word, tree), result)
        self.assertEqual(self.PIPELINE.applied("t.d", tree[(0,)]).term, "4")

    def test_words_of_other_kinds(self):
        pipeline = Pipeline(BACK, TO_DUO)
        self.assertEqual(pipeline.applied("z", read("Q(7)")).term, "7")
        self.assertEqual(pipeline.applied("n.b", read("Q(7)")).term, "Q(7)")
        self.raises(WrongTree, pipeline.applied, "n.b", read("E"), path=())
        for word in ("a.n", "b.m", "a.z", "d.m"):
            self.raises(Unknown, Pipeline(TO_DUO, BACK).applied, word, read("Nil"), name=word)
        self.assertEqual(Pipeline(TO_DUO, BACK).applied("b.n", read("Nil")).term, "Neg(Nil)")
        self.raises(WrongTree, pipeline.applied, "z", read("R(Q(1))"), path=(0,))

    def test_no_words(self):
        for word in (
            "", ".", "t", "t.a", "t.b", "a", "t.t.t", "t.a.n", "t.b.m", "t.a.z", "t.d.m", "t.d.z", "t.a.m.t", "t.a.m.", ".t.a.m", "t..m",
            "t.a.m ", "t a m", "T.a.m", "t.d.", "tidy.to.back", "m.a.t", "d",
        ):
            self.raises(Unknown, self.PIPELINE.applied, word, read("Foo"), name=word)


class OriginsTest(unittest.TestCase, Raises):
    def test_origins(self):
        pipeline = Pipeline(TO_DUO)
        tree = read("Add(Add(Num(1), Neg(Nil)), Add(Num(2), Neg(Num(3))))")
        self.assertEqual(pipeline(tree).term, "P(P(P(E, Q(1)), R(E)), Q(3))")
        self.assertEqual(pipeline.origins(tree), [((0, 0, 1, 0), (0, 0, 0)), ((1, 0), (1, 1, 0, 0))])
        tree = read("Add(Nil, Add(Nil, Nil))")
        self.assertEqual(pipeline.origins(tree), [((1, 0), None)])
        self.assertEqual(pipeline.origins(read("Nil")), [])

    def test_several_stages(self):
        pipeline = Pipeline(TIDY, TO_DUO, BACK)
        tree = read("Add(Num(4), Add(Num(5), Neg(Num(6))))")
        self.assertEqual(pipeline(tree).term, "Add(Num(4), Add(Num(5), Nil))")
        self.assertEqual(pipeline.origins(tree), [((0, 0), (0, 0)), ((1, 0, 0), (1, 0, 0))])

    def test_copies_and_digits_of_templates(self):
        pipeline = Pipeline(DOUBLE) * 2
        self.assertEqual(pipeline.origins(read("D(3)")), [
            ((0, 0, 0), (0,)), ((0, 1, 0), None), ((1, 0, 0), None), ((1, 1, 0), None)])
        self.assertEqual(Pipeline(DOUBLE).origins(read("P(D(1), S(D(2)))")), [
            ((0, 0, 0), (0, 0)), ((0, 1, 0), None), ((1, 0, 0, 0), (1, 0, 0)), ((1, 0, 1, 0), None),
            ((1, 1, 0, 0), (1, 0, 0)), ((1, 1, 1, 0), None)])

    def test_codes_change_digits_with_origins_only(self):
        for pipeline, trees in (
            (Pipeline(TO_DUO), right_trees(LANG, 6, "35")["Expr"]), (Pipeline(DOUBLE) * 2, right_trees(P, 5, "35")["K"]),
            (Pipeline(TIDY, TO_DUO, BACK), right_trees(LANG, 6, "35")["Expr"]),
        ):
            for tree in trees:
                result = pipeline(tree)
                wanted = result
                for place, path in pipeline.origins(tree):
                    if path is not None:
                        self.assertEqual(tree[path], result[place])
                        wanted = wanted.exchanged(place, result[place].recoded("0120406789"))
                self.assertEqual(pipeline(tree.recoded("0120406789")), wanted)
                digits = [path for path in result.paths() if result[path].name.isdigit()]
                self.assertEqual([place for place, _ in pipeline.origins(tree)], digits)


class LargeTest(unittest.TestCase):
    def test_trees_of_2000_names(self):
        tree = Tree("Num", Tree("7"))
        for _ in range(9):
            tree = Tree("Add", tree, tree)
        self.assertEqual(tree.size, 1535)
        result = (Pipeline(TIDY) * 4)(tree)
        self.assertEqual(result, tree)
        self.assertEqual(len((Pipeline(TIDY) * 4).origins(tree)), 512)


if __name__ == "__main__":
    unittest.main()
