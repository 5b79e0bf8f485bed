import unittest
from functools import reduce
from itertools import product

from bounds import TWENTY, TWENTY_ONE, LEAVES, BIGGER, chain_pipeline, growing_stage, line_pipeline, word_pipeline
from helpers import LANG, ODD, Raises, read, right_trees
from samples import small_pipelines
from test_lots import MIXED, TIDY
from test_walks import COPY, DOUBLE, FIRST, MORE, comb, negs
from treeworks.errors import BadIndex, LimitExceeded, Unknown, WrongTree
from treeworks.outlines import opening
from treeworks.pipelines import Pipeline
from treeworks.stages import Stage
from treeworks.sure import Sure, sure_result
from treeworks.trees import Tree
from treeworks.walks import Walk


def dues(table, kind, tree):
    """The kinds that are due at the holes of a tree."""
    found = []
    for path in tree.holes():
        due, here = kind, tree
        for at in path:
            due, here = table.maker(here.name).wants[at], here.parts[at]
        found.append(due)
    return found


def fillings(table, kind, tree, small, most=400):
    rows = [small[due] for due in dues(table, kind, tree)]
    return [tree.filled(*parts) for _, parts in zip(range(most), product(*rows))]


def holed_trees(table, kind, most):
    """Some right trees with one or two holes."""
    found = []
    for tree in right_trees(table, most)[kind][::3]:
        paths = list(tree.paths())
        for path in paths[::2]:
            one = tree.exchanged(path, Tree("_"))
            found.append(one)
            others = [other for other in paths if other[:len(path)] != path and path[:len(other)] != other]
            found.extend(one.exchanged(other, Tree("_")) for other in others[:2])
    return found


class SureLineTest(unittest.TestCase, Raises):
    def test_the_common_part_of_the_results(self):
        for pipeline in small_pipelines(range(80)):
            sure = Sure(pipeline)
            trees = right_trees(pipeline.source, 6)
            for word in sure.walk.words():
                takes = pipeline.stages[0].named(word.split(".")[0]).takes
                results = {lot: [] for lot in range(sure.walk.lots.many(takes))}
                for tree in trees[takes][:150]:
                    results[sure.walk.lots.lot(tree)].append(pipeline.applied(word, tree))
                for lot in results:
                    line = sure.sure_line(word, lot)
                    for result in results[lot]:
                        self.assertTrue(line.covers(result))
                    if line.whole and results[lot]:
                        self.assertEqual(results[lot][0], line)

    def test_the_greatest_such_tree(self):
        # With enough trees nothing but the sure line is common to all results.
        sure = Sure(Pipeline(MIXED))
        trees = right_trees(ODD, 6, "0123")
        for word in ("k", "l", "g"):
            takes = MIXED.named(word).takes
            for lot in range(sure.walk.lots.many(takes)):
                results = [MIXED.run(word, tree) for tree in trees[takes] if sure.walk.lots.lot(tree) == lot]
                self.assertEqual(sure.sure_line(word, lot), reduce(lambda one, other: one & other, results))

    def test_the_example(self):
        sure = Sure(Pipeline(TIDY))
        self.assertEqual([sure.sure_line("t", lot).term for lot in (0, 1)], ["Nil", "_"])

    def test_results_of_any_size(self):
        self.assertEqual(Sure(Pipeline(DOUBLE, COPY, DOUBLE)).sure_line("d.c.d", 0).term, "Nil")

    def test_calls_alone(self):
        # A result that is the result for a part tells nothing of its own.
        stage = Stage("s", LANG, LANG, ("s", "Expr", "Expr", ["Neg(x) => s(x)", "Add(x, y) => s(y)", "_ => Neg(Nil)"]))
        self.assertEqual(Sure(Pipeline(stage)).sure_line("s", 0).term, "Neg(Nil)")

    def test_words_that_are_not_reached_and_wrong_lots(self):
        stage = Stage("s", LANG, LANG, ("t", "Expr", "Expr", ["Neg(Neg(_)) => Nil", "_ => Nil"]), ("u", "Expr", "Expr", ["_ => Nil"]))
        sure = Sure(Pipeline(stage))
        self.raises(Unknown, sure.sure_line, "u", 9, name="u")
        self.raises(Unknown, sure.sure_line, "nope", 0, name="nope")
        self.raises(Unknown, sure.sure_line, "", 0, name="")
        self.raises(BadIndex, sure.sure_line, "t", 2, index=2)
        self.raises(BadIndex, sure.sure_line, "t", -1, index=-1)
        self.assertEqual(sure.sure_line("t", 1).term, "Nil")

    def test_attributes(self):
        pipeline = Pipeline(TIDY)
        sure = Sure(pipeline)
        self.assertIs(sure.pipeline, pipeline)
        self.assertIsInstance(sure.walk, Walk)
        self.assertIs(sure.walk.pipeline, pipeline)

    def test_digits(self):
        sure = Sure(Pipeline(MIXED))
        self.assertEqual(sure.sure_line("g", 1).term, "_")
        self.assertEqual(sure.walk.lots.least("K", 0).term, "End")
        self.assertEqual(sure.sure_line("g", 0).term, "4")


class RefusalTest(unittest.TestCase, Raises):
    def test_words(self):
        sure = Sure(word_pipeline(*TWENTY))
        self.assertEqual(len(sure.walk.words()), 20)
        found = sure_result(sure, read("P(_, D(_, 3, Z))"))
        for full in ("P(Z, D(0, 3, Z))", "P(P(Z, D(1, 2, Z)), D(4, 3, Z))", "P(D(5, 6, Z), D(7, 3, Z))"):
            self.assertTrue(found.covers(sure.walk(read(full))))
        self.raises(LimitExceeded, Sure, word_pipeline(*TWENTY_ONE), limit="words")

    def test_lines(self):
        sure = Sure(line_pipeline("P(P(S(b(x)), S(b(x))), b(x))"))
        self.assertEqual(sure.sure_line("a.a.a.c", 0).size, 400)
        self.raises(LimitExceeded, Sure, line_pipeline("P(P(S(b(x)), S(b(x))), S(b(x)))"), limit="sure")

    def test_lines_of_words_that_are_not_reached_do_not_count(self):
        pipeline = line_pipeline("P(P(S(b(x)), S(b(x))), S(b(x)))")
        drop = Stage("drop", LANG, pipeline.source, ("d", "Expr", "N", ["_ => Z"]))
        # The last stage starts with another state, so nothing is as large as before.
        last = pipeline.stages[3]
        states = [(state.name, state.takes, state.gives, [row.written for row in state.rows]) for state in last.states]
        other = Stage("other", last.source, last.target, ("n", "N", "N", ["_ => Z"]), *states)
        short = Pipeline(drop, *pipeline.stages[1:3], other)
        self.assertEqual(sure_result(Sure(short), read("_")).term, "Z")

    def test_lines_of_endless_size(self):
        constant = Stage("constant", LANG, LANG, ("c", "Expr", "Expr", ["_ => Neg(Neg(Neg(Neg(Nil))))"]))
        grow = Stage("grow", LANG, LANG, ("g", "Expr", "Expr", ["Neg(x) => Add(Neg(Neg(g(x))), Neg(Neg(g(x))))", "Add(x, y) => Nil", "_ => Nil"]))
        self.assertEqual(Sure(Pipeline(constant, grow)).sure_line("c.g", 0).size, 91)
        double = Stage("double", LANG, LANG, ("g", "Expr", "Expr", ["Neg(x) => Add(Neg(Neg(g(x))), Neg(Neg(g(x))))", "Add(x, y) => Add(g(x), g(y))", "_ => Nil"]))
        self.raises(LimitExceeded, Sure, Pipeline(constant, double, double), limit="sure")

    def test_the_order(self):
        large = chain_pipeline(LEAVES, LEAVES, LEAVES)
        self.raises(LimitExceeded, Sure, large, limit="lots")
        growing = [growing_stage("big", BIGGER) for _ in range(3)]
        self.raises(LimitExceeded, Sure, Pipeline(*growing), limit="unfolded")
        # More than twenty words are reached here, and some sure line is too large.
        words = word_pipeline(*TWENTY_ONE)
        start = Stage("start", words.source, words.source, ("a", "N", "N", ["_ => P(P(P(Z, Z), P(Z, Z)), P(P(Z, Z), Z))"]))
        self.assertEqual(len(Walk(Pipeline(start) + words).words()), 1)
        self.raises(LimitExceeded, Sure, words, limit="words")


class SureResultTest(unittest.TestCase, Raises):
    def test_against_the_results_of_fillings(self):
        for pipeline in small_pipelines(range(60)):
            sure = Sure(pipeline)
            small = {kind: trees[:14] for kind, trees in right_trees(pipeline.source, 4).items()}
            for tree in holed_trees(pipeline.source, pipeline.takes, 5)[:14]:
                found = sure_result(sure, tree)
                results = [pipeline(full) for full in fillings(pipeline.source, pipeline.takes, tree, small)]
                for result in results:
                    self.assertTrue(found.covers(result))
                # At each hole two fillings have results with different names, so nothing greater covers all results.
                for place in found.holes():
                    first, second = opening(sure, tree, place)
                    self.assertTrue(tree.covers(first) and tree.covers(second))
                    self.assertNotEqual(sure.walk(first)[place].name, sure.walk(second)[place].name)

    def test_the_example(self):
        sure = Sure(Pipeline(TIDY))
        self.assertEqual(sure_result(sure, read("Add(Neg(_), Num(7))")).term, "Add(Num(7), _)")
        self.assertEqual(sure_result(sure, read("Neg(Neg(_))")).term, "Neg(_)")

    def test_whole_trees(self):
        for pipeline in small_pipelines(range(30)):
            sure = Sure(pipeline)
            for tree in right_trees(pipeline.source, 6)[pipeline.takes][:40]:
                self.assertEqual(sure_result(sure, tree), sure.walk(tree))

    def test_a_hole_alone(self):
        sure = Sure(Pipeline(MIXED))
        self.assertEqual(sure_result(sure, read("_")).term, "_")
        always = Stage("always", LANG, LANG, ("a", "Expr", "Expr", ["Add(x, y) => Neg(a(x))", "Neg(x) => Neg(Nil)", "_ => Neg(Neg(Nil))"]))
        self.assertEqual(sure_result(Sure(Pipeline(always)), read("_")).term, "Neg(_)")

    def test_holes_where_a_digit_is_due(self):
        sure = Sure(Pipeline(MIXED))
        self.assertEqual(sure_result(sure, read("Both(_, End, 3)")).term, "Both(4, End, _)")
        self.assertEqual(sure_result(sure, read("Both(1, Both(2, End, _), 3)")).term, "Both(_, Both(4, End, 2), 1)")
        self.assertEqual(sure_result(sure, read("Both(1, _, _)")).term, "Both(_, _, 1)")

    def test_parts_together(self):
        # Lots that the parts can only have in different fillings do not meet.
        stage = Stage("s", LANG, LANG, ("t", "Expr", "Expr", [
            "Add(x:Neg(_), y) => Add(Nil, t(y))", "Add(x, y) => Add(t(y), t(y))", "Neg(x) => Neg(t(x))", "Num(d) => Nil", "Nil => Nil",
        ]))
        sure = Sure(Pipeline(stage))
        self.assertEqual(sure_result(sure, read("Add(_, Neg(Nil))")).term, "Add(_, Neg(Nil))")
        self.assertEqual(sure_result(sure, read("Add(_, Nil)")).term, "Add(Nil, Nil)")
        self.assertEqual(sure_result(sure, read("Add(Neg(_), _)")).term, "Add(Nil, _)")

    def test_more_is_known_of_less_unknown_trees(self):
        sure = Sure(Pipeline(TIDY) * 2)
        chain = [read(term) for term in ("_", "Add(_, _)", "Add(_, Neg(_))", "Add(_, Neg(Neg(_)))", "Add(Num(_), Neg(Neg(Nil)))")]
        found = [sure_result(sure, tree) for tree in chain]
        self.assertTrue(all(first.covers(second) for first, second in zip(found, found[1:])))

    def test_two_pipelines_together(self):
        first, second = Pipeline(TIDY), Pipeline(TIDY)
        for term in ("Neg(_)", "Neg(Neg(_))", "Add(Neg(_), Neg(Neg(Neg(_))))"):
            steps = sure_result(Sure(second), sure_result(Sure(first), read(term)))
            self.assertTrue(steps.covers(sure_result(Sure(first + second), read(term))))

    def test_the_bound_of_names(self):
        sure = Sure(Pipeline(MORE))
        self.assertEqual(sure_result(sure, comb(1999)).size, 2000)
        self.raises(LimitExceeded, sure_result, sure, comb(2000), limit="result")
        holed = comb(1999).exchanged(list(comb(1999).paths())[-1], Tree("_"))
        self.assertEqual(sure_result(sure, holed).size, 2000)
        holed = comb(2000).exchanged(list(comb(2000).paths())[-1], Tree("_"))
        self.raises(LimitExceeded, sure_result, sure, holed, limit="result")

    def test_the_bound_of_levels(self):
        sure = Sure(Pipeline(MORE))
        self.assertEqual(sure_result(sure, negs(58)).levels, 60)
        self.raises(LimitExceeded, sure_result, sure, negs(59), limit="result")
        self.assertEqual(sure_result(sure, negs(58, "_")).levels, 60)
        self.raises(LimitExceeded, sure_result, sure, negs(59, "_"), limit="result")

    def test_a_choice_that_is_too_large(self):
        # For one of the lots the result is too large, though the common part of all is a hole.
        stage = Stage("s", LANG, LANG, ("s", "Expr", "Expr", ["Add(x:Nil, y) => Add(c(y), Neg(c(y)))", "Add(x, y) => Nil", "_ => Nil"]),
                      ("c", "Expr", "Expr", ["Add(x, y) => Add(c(x), c(y))", "Neg(x) => Neg(c(x))", "Num(d) => Num(d)", "Nil => Nil"]))
        sure = Sure(Pipeline(stage))
        self.assertEqual(sure_result(sure, Tree("Add", Tree("_"), comb(999))).term, "_")
        self.raises(LimitExceeded, sure_result, sure, Tree("Add", Tree("_"), comb(1001)), limit="result")
        self.assertEqual(sure_result(sure, Tree("Add", Tree("Neg", Tree("_")), comb(1001))).term, "Nil")

    def test_a_sure_line_that_has_too_many_levels(self):
        sure = Sure(line_pipeline("P(P(S(b(x)), S(b(x))), b(x))"))
        self.raises(LimitExceeded, sure_result, sure, read("_"), limit="result")
        self.raises(LimitExceeded, sure_result, sure, read("Z"), limit="result")

    def test_results_on_the_way_of_any_size(self):
        sure = Sure(Pipeline(DOUBLE, COPY, FIRST))
        self.assertEqual(sure_result(sure, negs(59)).term, "Nil")
        self.assertEqual(sure_result(sure, negs(59, "_")).term, "Nil")

    def test_wrong_trees(self):
        sure = Sure(Pipeline(MIXED))
        for term, path in [("Stop", ()), ("Swap(_, End)", (1,)), ("Both(_, 3, Nope)", (1,)), ("Swap(_)", ()), ("4", ())]:
            self.raises(WrongTree, sure_result, sure, read(term), path=path)

    def test_many_holes(self):
        tree = holed = comb(1999)
        for path in list(tree.paths()):
            if not tree[path].parts and path[-1] == 1:
                holed = holed.exchanged(path, Tree("_"))
        self.assertGreater(len(holed.holes()), 300)
        self.assertEqual(sure_result(Sure(Pipeline(COPY)), holed), holed)


if __name__ == "__main__":
    unittest.main()
