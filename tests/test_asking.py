import unittest

from bounds import TWENTY_ONE, LEAVES, chain_pipeline, line_pipeline, word_pipeline
from helpers import LANG, ODD, Raises, read, right_trees
from samples import small_pipelines
from test_lots import MIXED, TIDY
from test_outlines import cube_pipeline
from test_walks import COPY, DOUBLE, FIRST, MORE, negs
from treeworks.asking import Inquiry, Typist
from treeworks.errors import BadCount, LimitExceeded, NothingLeft, WrongSign, WrongTree
from treeworks.outlines import needed
from treeworks.pipelines import Pipeline
from treeworks.stages import Stage
from treeworks.sure import Sure, sure_result
from treeworks.tables import Table
from treeworks.texts import parse, sketch, text_of
from treeworks.walks import Walk


def texts_of_results(pipeline, beginning, texts):
    walk = Walk(pipeline)
    return [text_of(pipeline.target, walk(parse(pipeline.source, pipeline.takes, text)))
            for text in texts if text.startswith(beginning)]


def typed(pipeline, text):
    typist = Typist(pipeline)
    for sign in text:
        typist(sign)
    return typist


class TypistTest(unittest.TestCase, Raises):
    def test_the_example(self):
        typist = Typist(Pipeline(TIDY))
        self.assertEqual([typist("("), typist("z"), typist("+"), typist("-"), typist("5"), typist(")"), typist.told],
                         ["(", "", "", "", "-5+z)", "", "(-5+z)"])

    def test_a_new_one_has_read_nothing(self):
        typist = Typist(Pipeline(TIDY))
        self.assertEqual((typist.typed, typist.told, Typist.MOST_SIGNS), ("", "", 50))
        always = Stage("always", LANG, LANG, ("a", "Expr", "Expr", ["Add(x, y) => Neg(a(x))", "_ => Neg(Nil)"]))
        self.assertEqual(Typist(Pipeline(always)).told, "-")

    def check(self, pipeline, text, texts):
        typist = Typist(pipeline)
        for at in range(len(text) + 1):
            self.assertEqual(typist.typed, text[:at])
            results = texts_of_results(pipeline, typist.typed, texts)
            for result in results:
                self.assertTrue(result.startswith(typist.told))
            parting = typist.parting()
            tree = sure_result(Sure(pipeline), sketch(pipeline.source, pipeline.takes, typist.typed))
            self.assertEqual(parting is None, tree.whole)
            if parting is None:
                self.assertEqual(set(results) | {typist.told}, {typist.told})
            else:
                first, second = texts_of_results(pipeline, typist.typed, [typist.typed + end for end in parting])
                self.assertTrue(first.startswith(typist.told) and second.startswith(typist.told))
                self.assertNotEqual(first[len(typist.told)], second[len(typist.told)])
                self.assertNotEqual(parting[0], parting[1])
                self.assertIsInstance(parting, tuple)
            if at < len(text):
                told = typist.told
                self.assertEqual(told + typist(text[at]), typist.told)
        return typist

    def test_what_is_told_at_each_beginning(self):
        for pipeline in small_pipelines(range(40)):
            trees = right_trees(pipeline.source, 6)[pipeline.takes]
            texts = [text_of(pipeline.source, tree) for tree in trees[:400]]
            for text in (texts[len(texts) // 2], texts[-1]):
                self.check(pipeline, text, texts)

    def test_forms_in_another_order(self):
        trees = right_trees(ODD, 6)["K"]
        texts = [text_of(ODD, tree) for tree in trees]
        for text in ("<.,e>", texts[5], texts[-1]):
            self.check(Pipeline(MIXED), text, texts)

    def test_erase_back_to_the_empty_string(self):
        typist = typed(Pipeline(TIDY), "(z+-5)")
        seen = []
        while typist.typed:
            seen.append((typist.erase(), typist.typed, typist.told))
        self.assertEqual(seen, [(")", "(z+-5", "(-5+z)"), ("5", "(z+-", "("), ("-", "(z+", "("), ("+", "(z", "("), ("z", "(", "("), ("(", "", "")])
        self.raises(NothingLeft, typist.erase)
        self.assertEqual((typist.typed, typist.told), ("", ""))
        self.assertEqual(typist("z"), "z")

    def test_erase_and_other_signs(self):
        typist = typed(Pipeline(TIDY), "(z+-")
        typist.erase()
        self.assertEqual([typist("7"), typist(")"), typist.told], ["7+z)", "", "(7+z)"])

    def test_signs_that_cannot_come(self):
        typist = typed(Pipeline(TIDY), "(z")
        self.raises(WrongSign, typist, "-", at=2, expected="+")
        self.raises(WrongSign, typist, "$", at=2, expected="+")
        self.assertEqual((typist.typed, typist.told), ("(z", "("))
        self.assertEqual(typist("+"), "")
        typist = typed(Pipeline(TIDY), "z")
        self.raises(WrongSign, typist, "z", at=1, expected="")
        self.assertEqual((typist.typed, typist.told, typist.erase()), ("z", "z", "z"))

    def test_fifty_signs(self):
        typist = typed(Pipeline(COPY), "-" * 50)
        self.assertEqual((typist.typed, typist.told), ("-" * 50, "-" * 50))
        self.raises(LimitExceeded, typist, "z", limit="text")
        self.raises(LimitExceeded, typist, "]", limit="text")
        self.assertEqual((typist.typed, typist.told), ("-" * 50, "-" * 50))
        self.assertEqual(len(typist.parting()), 2)
        typist.erase()
        self.raises(WrongSign, typist, "]", at=49, expected="(-0123456789z")
        self.assertEqual(typist("z"), "z")

    def test_results_that_are_too_large(self):
        typist = typed(Pipeline(DOUBLE), "-" * 9)
        self.raises(LimitExceeded, typist, "-", limit="result")
        self.assertEqual((typist.typed, len(typist.erase())), ("-" * 9, 1))
        # Results of any size can follow on both sides.
        self.assertEqual(len(typed(Pipeline(DOUBLE), "-" * 9).parting()), 2)

    def test_errors_of_the_constructor(self):
        self.raises(LimitExceeded, Typist, chain_pipeline(LEAVES, LEAVES, LEAVES), limit="lots")
        self.raises(LimitExceeded, Typist, word_pipeline(*TWENTY_ONE), limit="words")
        self.raises(LimitExceeded, Typist, line_pipeline("P(P(S(b(x)), S(b(x))), S(b(x)))"), limit="sure")
        self.raises(LimitExceeded, Typist, line_pipeline("P(P(S(b(x)), S(b(x))), b(x))"), limit="result")


class InquiryTest(unittest.TestCase, Raises):
    def state(self, inquiry):
        return inquiry.known.term, inquiry.question, inquiry.sure_tree.term, inquiry.asked

    def test_all_holes_are_needed(self):
        inquiry = Inquiry(Pipeline(TIDY), read("Add(Neg(_), Num(_))"))
        self.assertEqual(self.state(inquiry), ("Add(Neg(_), Num(_))", (0, 0), "Add(Num(_), _)", ()))
        self.assertEqual(inquiry(read("Nil")), (1, 0))
        self.assertEqual(self.state(inquiry), ("Add(Neg(Nil), Num(_))", (1, 0), "Add(Num(_), Nil)", ((0, 0),)))
        self.assertIsNone(inquiry(read("7")))
        self.assertEqual(self.state(inquiry), ("Add(Neg(Nil), Num(7))", None, "Add(Num(7), Nil)", ((0, 0), (1, 0))))
        self.raises(NothingLeft, inquiry, read("Nil"))

    def test_some_holes_are_needed(self):
        inquiry = Inquiry(Pipeline(MIXED), read("Swap(_, List(_, Stop))"))
        self.assertEqual(inquiry.question, (0,))
        self.assertEqual(inquiry(read("Swap(_, List(End, Stop))")), (0, 0))
        self.assertIsNone(inquiry(read("End")))
        self.assertEqual(self.state(inquiry)[2:], ("End", ((0,), (0, 0))))
        self.assertEqual(inquiry.known.term, "Swap(Swap(End, List(End, Stop)), List(_, Stop))")

    def test_no_hole_is_needed(self):
        inquiry = Inquiry(Pipeline(FIRST), read("Add(Num(_), Add(_, _))"))
        self.assertEqual(self.state(inquiry), ("Add(Num(_), Add(_, _))", None, "Nil", ()))
        self.raises(NothingLeft, inquiry, read("Nope"))

    def test_it_ends_with_a_whole_result(self):
        for pipeline in small_pipelines(range(30)):
            inquiry = Inquiry(pipeline, read("_"))
            least = pipeline.source.least
            for _ in range(9):
                if inquiry.question is None:
                    break
                self.assertEqual(inquiry.question, needed(Sure(pipeline), inquiry.known)[0])
                due = self.due(pipeline, inquiry.known, inquiry.question)
                inquiry(least(due))
            self.assertTrue(inquiry.sure_tree.whole)
            self.assertIsNone(inquiry.question)

    def due(self, pipeline, tree, path):
        due = pipeline.takes
        for at in path:
            due, tree = pipeline.source.maker(tree.name).wants[at], tree.parts[at]
        return due

    def test_answers_with_holes(self):
        inquiry = Inquiry(Pipeline(TIDY), read("_"))
        self.assertEqual(inquiry(read("Add(_, Num(_))")), (0,))
        self.assertEqual(inquiry(read("Neg(_)")), (0, 0))
        self.assertEqual(inquiry(read("_")), (0, 0))
        self.assertEqual(inquiry.asked, ((), (0,), (0, 0)))
        self.assertEqual(inquiry(read("Neg(_)")), (0, 0, 0))
        self.assertEqual(inquiry.sure_tree.term, "Add(Num(_), Neg(_))")

    def test_four_holes(self):
        inquiry = Inquiry(Pipeline(TIDY), read("Add(_, Add(_, _))"))
        before = self.state(inquiry)
        self.raises(BadCount, inquiry, read("Add(_, _)"), count=4)
        self.assertEqual(self.state(inquiry), before)
        self.assertEqual(inquiry(read("Num(_)")), (0, 0))
        self.raises(BadCount, Inquiry, Pipeline(TIDY), read("Add(Add(_, _), Add(_, _))"), count=4)

    def test_wrong_answers(self):
        inquiry = Inquiry(Pipeline(MIXED), read("Both(_, End, 3)"))
        self.raises(WrongTree, inquiry, read("End"), path=())
        self.assertEqual(inquiry.question, (0,))
        inquiry = Inquiry(Pipeline(TIDY), read("Add(_, Nil)"))
        before = self.state(inquiry)
        self.raises(WrongTree, inquiry, read("Neg(3)"), path=(0,))
        self.raises(WrongTree, inquiry, read("7"), path=())
        self.raises(WrongTree, inquiry, read("Add(_, Add(_, Nope))"), path=(1, 1))
        self.assertEqual(self.state(inquiry), before)

    def test_answers_that_lead_to_large_results(self):
        inquiry = Inquiry(Pipeline(MORE), negs(30, "_"))
        before = self.state(inquiry)
        self.raises(LimitExceeded, inquiry, negs(28, "_"), limit="result")
        self.raises(LimitExceeded, inquiry, negs(29), limit="result")
        self.assertEqual(self.state(inquiry), before)
        self.assertIsNone(inquiry(negs(28)))

    def test_choices(self):
        pipeline, tree = cube_pipeline(10)
        inquiry = Inquiry(pipeline, tree)
        self.assertEqual(inquiry.question, (0,))
        pipeline, tree = cube_pipeline(11)
        self.raises(LimitExceeded, Inquiry, pipeline, tree, limit="choices")
        inquiry = Inquiry(pipeline, read("T(_, _)"))
        before = self.state(inquiry)
        self.raises(LimitExceeded, inquiry, read("T(_, _)"), limit="choices")
        self.assertEqual(self.state(inquiry), before)

    def test_errors_of_the_constructor_in_their_order(self):
        self.raises(LimitExceeded, Inquiry, chain_pipeline(LEAVES, LEAVES, LEAVES), read("_"), limit="lots")
        self.raises(LimitExceeded, Inquiry, word_pipeline(*TWENTY_ONE), read("Nope"), limit="words")
        self.raises(WrongTree, Inquiry, Pipeline(TIDY), read("Add(Add(_, _), Add(_, Neg(3)))"), path=(1, 1, 0))
        self.raises(LimitExceeded, Inquiry, Pipeline(MORE), negs(59, "_"), limit="result")
        # The outline is too large because of its mark, though the sure result is not.
        self.raises(LimitExceeded, Inquiry, Pipeline(MORE), negs(58, "_"), limit="result")

    def test_a_table_without_digits(self):
        table = Table.read("table t\nK: S K = s1\nK: Z = z")
        drop = Stage("drop", table, table, ("a", "K", "K", ["S(x:S(_)) => a(x)", "_ => Z"]))
        self.assertIsNone(Inquiry(Pipeline(drop), read("S(_)")).question)


if __name__ == "__main__":
    unittest.main()
