import unittest

from bounds import BIGGER, FORKED, LEAVES, TWENTY, TWENTY_ONE, chain_pipeline, growing_stage, line_pipeline, word_pipeline
from helpers import LANG, Raises, read
from samples import small_pipelines
from test_lots import MIXED, TIDY
from test_reaches import EVEN, PLAIN, TOP
from treeworks.certificates import Certificate, Reach, Shown
from treeworks.checker import accepts
from treeworks.errors import LimitExceeded, WrongTree
from treeworks.lots import lots_of
from treeworks.making import show_reach, show_sure
from treeworks.pipelines import Pipeline
from treeworks.reaches import reach
from treeworks.stages import Stage
from treeworks.sure import Sure, sure_result


def listed(pipeline):
    """The terms of the least trees of all lots, with the digit 0 if some maker wants a digit."""
    rows = [line.split(maxsplit=2) for line in lots_of(pipeline).lines()]
    wanted = any("digit" in maker.wants for maker in pipeline.source)
    return tuple(term for kind, _, term in rows if kind != "digit" or wanted)


class ShowSureTest(unittest.TestCase, Raises):
    def check(self, pipeline, tree):
        certificate = show_sure(pipeline, tree)
        self.assertIsInstance(certificate, Shown)
        self.assertEqual((certificate.title, certificate.term), (pipeline.title, tree.term))
        self.assertEqual(certificate.pattern, sure_result(Sure(pipeline), tree).term)
        self.assertEqual(certificate.lots, listed(pipeline))
        again = Certificate.read("\n".join(certificate.lines()))
        self.assertEqual(again.lines(), certificate.lines())
        self.assertTrue(accepts(certificate, *pipeline))
        self.assertTrue(accepts(again, *pipeline))
        return certificate

    def test_single_cases(self):
        for term in ("_", "Nil", "Add(Neg(_), Num(7))", "Neg(Neg(_))", "Num(_)", "Add(_, Add(_, Num(_)))"):
            self.check(Pipeline(TIDY), read(term))
            self.check(Pipeline(TIDY, TIDY), read(term))
        for term in ("_", "Swap(_, _)", "Both(_, Swap(_, Stop), 3)", "Swap(End, One(_, 4))"):
            self.check(Pipeline(MIXED), read(term))
            self.check(Pipeline(MIXED, MIXED), read(term))

    def test_samples(self):
        for pipeline in small_pipelines(range(100, 160)):
            for maker in pipeline.source.makers(pipeline.takes):
                holes = ", ".join("_" for _ in maker.wants)
                self.check(pipeline, read(f"{maker.name}({holes})" if holes else maker.name))

    def test_whole_trees_have_no_hole_lines(self):
        certificate = self.check(Pipeline(TIDY), read("Add(Nil, Num(3))"))
        self.assertEqual((certificate.pattern, certificate.openings), ("Add(Num(3), Nil)", ()))

    def test_errors_in_their_order(self):
        self.raises(LimitExceeded, show_sure, chain_pipeline(LEAVES, LEAVES, LEAVES), read("Foo"), limit="lots")
        self.raises(LimitExceeded, show_sure, Pipeline(*[growing_stage(f"s{at}", BIGGER) for at in range(4)]), read("Foo"),
                    limit="unfolded")
        self.raises(LimitExceeded, show_sure, word_pipeline(*TWENTY_ONE), read("Foo"), limit="words")
        self.raises(LimitExceeded, show_sure, line_pipeline("P(P(S(b(x)), S(b(x))), S(b(x)))"), read("Foo"), limit="sure")
        self.raises(WrongTree, show_sure, Pipeline(TIDY), read("Foo"), path=())
        self.raises(WrongTree, show_sure, Pipeline(TIDY), read("Add(Nil, 3)"), path=(1,))
        double = Stage("double", LANG, LANG, ("d", "Expr", "Expr", ["Neg(x) => Add(d(x), d(x))", "_ => Nil"]))
        self.raises(LimitExceeded, show_sure, Pipeline(double), read("Neg(" * 10 + "Nil" + ")" * 10), limit="result")

    def test_runs_that_are_too_large(self):
        # The results on the way for the least trees are too large, so what is made is not accepted.
        grow = Stage("grow", LANG, LANG, ("g", "Expr", "Expr", ["Neg(x) => Add(g(x), g(x))", "_ => Nil"]))
        look = Stage("look", LANG, LANG, ("a", "Expr", "Expr", ["_ => Nil"]), ("b", "Expr", "Expr", ["Neg(x:Neg(_)) => Nil", "_ => Nil"]))
        pipeline = Pipeline(Stage("up", LANG, LANG, ("u", "Expr", "Expr", [
            "_ => Neg(Neg(Neg(Neg(Nil))))"])), Stage("more", LANG, LANG, ("m", "Expr", "Expr", [
                "Neg(x) => Neg(Neg(Neg(m(x))))", "_ => Nil"])), grow, look)
        certificate = show_sure(pipeline, read("_"))
        self.assertEqual(certificate.pattern, "Nil")
        self.assertFalse(accepts(certificate, *pipeline))

    def test_at_the_bounds(self):
        large = chain_pipeline(LEAVES, LEAVES, LEAVES[:5], [], table=FORKED)
        for term in ("_", "S(_)", "P(S(_), P(_, _))"):
            self.check(large, read(term))
        for term in ("_", "P(_, _)", "D(_, 3, P(_, Z))"):
            self.check(word_pipeline(*TWENTY), read(term))
        line = line_pipeline("P(P(S(b(x)), S(b(x))), b(x))")
        # The sure line of 400 names has too many levels for a result.
        self.raises(LimitExceeded, show_sure, line, read("_"), limit="result")

    def test_large_sure_lines(self):
        first = Stage("first", LANG, LANG, ("f", "Expr", "Expr", ["_ => Neg(Neg(Nil))"]))
        more = Stage("more", LANG, LANG, ("m", "Expr", "Expr", ["Neg(x) => Neg(Neg(Neg(m(x))))", "_ => Neg(Nil)"]))
        double = Stage("double", LANG, LANG, ("d", "Expr", "Expr", ["Neg(x) => Add(d(x), d(x))", "_ => Num(0)"]))
        for term in ("_", "Neg(_)", "Add(_, Num(_))"):
            certificate = self.check(Pipeline(first, more, double), read(term))
            self.assertEqual(read(certificate.pattern).size, 383)

    def test_many_holes(self):
        copy = Stage("copy", LANG, LANG, ("c", "Expr", "Expr", ["Neg(x) => Add(c(x), c(x))", "Add(x, y) => Add(c(x), c(y))", "Num(d) => Num(d)", "Nil => Nil"]))
        certificate = self.check(Pipeline(copy), read("Neg(" * 7 + "Add(_, Num(_))" + ")" * 7))
        self.assertEqual(len(certificate.openings), 256)


class ShowReachTest(unittest.TestCase, Raises):
    def test_samples(self):
        some = 0
        for pipeline in [*small_pipelines(range(100, 160)), PLAIN, TOP, EVEN, Pipeline(TIDY)]:
            certificate = show_reach(pipeline)
            self.assertEqual(certificate is None, reach(pipeline) is None)
            if certificate is not None:
                self.assertIsInstance(certificate, Reach)
                self.assertEqual((certificate.title, certificate.frames), (pipeline.title, reach(pipeline)))
                self.assertEqual(certificate.lots, listed(pipeline))
                self.assertTrue(accepts(certificate, *pipeline))
                self.assertEqual(Certificate.read("\n".join(certificate.lines())).lines(), certificate.lines())
                some += certificate.frames > 0
        self.assertGreater(some, 3)

    def test_refused(self):
        self.raises(LimitExceeded, show_reach, chain_pipeline(LEAVES, LEAVES, LEAVES), limit="lots")
        self.assertIsNone(show_reach(EVEN))

    def test_without_the_bounds_of_sure(self):
        pipeline = word_pipeline(*TWENTY_ONE)
        certificate = show_reach(pipeline)
        self.assertEqual((certificate.frames, accepts(certificate, *pipeline)), (0, True))


if __name__ == "__main__":
    unittest.main()
