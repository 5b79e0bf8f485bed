import unittest
from collections import Counter
from random import Random

from bounds import BIGGER, LEAVES, TWENTY_ONE, chain_pipeline, growing_stage, line_pipeline, word_pipeline
from helpers import LANG, ODD, Raises, read, right_trees
from samples import small_pipelines
from test_groves import FORK
from test_lots import MIXED, TIDY
from test_shared import TWICE
from treeworks.bench import Bench, Trial
from treeworks.documents import Document
from treeworks.errors import (
    BadCount, BadIndex, BadLine, LimitExceeded, Mismatch, NoPlace, NoTree, NotRight, NothingLeft, WorkError, WrongSign, WrongTree,
)
from treeworks.patches import Patch
from treeworks.pipelines import Pipeline
from treeworks.sets import TreeSet, before
from treeworks.stages import Stage
from treeworks.sure import Sure, sure_result
from treeworks.tables import Table
from treeworks.texts import parse, text_of
from treeworks.walks import Walk

P = Pipeline(TIDY)
DOUBLE = Stage("double", LANG, LANG, ("d", "Expr", "Expr", ["Neg(x) => Add(d(x), d(x))", "Add(x, y) => Add(d(x), d(y))", "Num(d) => Num(d)", "Nil => Nil"]))
COPY = Stage("copy", LANG, LANG, ("c", "Expr", "Expr", ["Neg(x) => Neg(c(x))", "Add(x, y) => Add(c(x), c(y))", "Num(d) => Num(d)", "Nil => Nil"]))
TO_FORK = Stage("tofork", LANG, FORK, ("f", "Expr", "K", ["Neg(x) => S(f(x))", "Add(x, y) => P(f(x), f(y))", "_ => Z"]))
EVENS = Stage("evens", LANG, LANG, ("e", "Expr", "Expr", ["Neg(x) => Neg(Neg(e(x)))", "_ => Nil"]))


def told(bench):
    """All that can be asked of a bench but its work."""
    document = bench.document
    return (
        bench.text, document.skeleton, document.known, document.broken, document.right, bench.shown, bench.output,
        bench.pipeline.title, bench.moment, bench.deeds, bench.patch, bench.log(), list(bench.report()),
        [bench.since(path) for path in bench.shown.paths()],
    )


def without_moment(bench):
    """What an undo restores."""
    return bench.text, told(bench)[1:8], list(bench.report())


class ShownTest(unittest.TestCase, Raises):
    def test_example(self):
        bench = Bench(P, "(-z+3)")
        bench.edit(4, 1, "-")
        bench.edit(5, 0, "7")
        self.assertEqual([bench.text, bench.output, bench.patch.triples, bench.since((1,)), bench.since((0, 0)), bench.log()],
                         ["(-z+-7)", "(-7+z)", ((1, 2, "-7"),), 0, 2, ["edit 4 1 -", "edit 5 0 7"]])

    def test_a_new_bench(self):
        bench = Bench(P)
        self.assertEqual((bench.text, bench.shown.term, bench.output, bench.work, bench.moment, bench.deeds), ("", "_", "_", 0, 0, 0))
        self.assertEqual((bench.patch, bench.log(), bench.since(()), bench.pipeline == P), (Patch(), [], 0, True))
        self.assertIsInstance(bench.document, Document)

    def test_right_unfinished_and_wrong_wordings(self):
        for text, shown in (("(-z+3)", "Add(Num(3), Nil)"), ("(-z+", "Add(_, Nil)"), ("(z3)", "_"), ("(-", "Add(_, _)"), ("-", "_"), ("7", "Num(7)")):
            bench = Bench(P, text)
            self.assertEqual((bench.text, bench.shown.term, bench.output), (text, shown, text_of(LANG, read(shown))))

    def test_broken_parts(self):
        bench = Bench(P, "(-z+3)")
        bench.edit(2, 1, "?")
        self.assertEqual((bench.shown.term, bench.output, bench.document.broken), ("Add(Num(3), _)", "(3+_)", (((0, 0), "?"),)))
        bench.edit(4, 1, "")
        self.assertEqual((bench.text, bench.output), ("(-?+)", "(_+_)"))

    def test_what_is_shown_for_samples(self):
        for pipeline in small_pipelines(range(30)):
            sure, rng = Sure(pipeline), Random(3)
            trees = right_trees(pipeline.source, 6)[pipeline.takes]
            bench = Bench(pipeline, text_of(pipeline.source, rng.choice(trees)))
            for _ in range(8):
                length = len(bench.text)
                at = rng.randint(0, length)
                bench.edit(at, min(rng.randint(0, 2), length - at), rng.choice(["", "z", "s", "-", "!", ")", "u"]))
                self.assertEqual(bench.shown, sure_result(sure, bench.document.known))
                self.assertEqual(bench.output, text_of(pipeline.target, bench.shown))
                if bench.document.right:
                    self.assertEqual(bench.shown, pipeline(bench.document.skeleton))

    def test_errors_of_a_new_bench(self):
        for pipeline, limit in (
            (chain_pipeline(LEAVES, LEAVES, LEAVES), "lots"), (Pipeline(*[growing_stage(f"s{at}", BIGGER) for at in range(4)]), "unfolded"),
            (word_pipeline(*TWENTY_ONE), "words"), (line_pipeline("P(P(S(b(x)), S(b(x))), S(b(x)))"), "sure"),
        ):
            self.raises(LimitExceeded, Bench, pipeline, "x" * 51, limit=limit)
        self.raises(LimitExceeded, Bench, P, "-" * 50 + "z", limit="text")
        self.raises(LimitExceeded, Bench, Pipeline(DOUBLE), "-" * 10 + "z", limit="result")
        self.assertEqual(Bench(Pipeline(DOUBLE), "-" * 9 + "z").shown.size, 1023)

    def test_reading_places(self):
        bench = Bench(P, "(-z+3)")
        self.assertEqual([bench[path].term for path in ((), (0,), (0, 0), (1, 0))], ["Add(Neg(Nil), Num(3))", "Neg(Nil)", "Nil", "3"])
        bench.edit(2, 1, "(z+")
        self.assertEqual((bench.text, bench[(0,)].term, bench[(0, 0, 0)].term), ("(-(z++3)", "Neg(Add(Nil, _))", "Nil"))
        for path in ((2,), (0, 0, 0, 0), (-1,)):
            self.raises(NoPlace, bench.__getitem__, path, path=path)
        with self.assertRaises(TypeError):
            list(bench)


class DeedsTest(unittest.TestCase, Raises):
    def test_edit(self):
        bench = Bench(P, "z")
        self.assertIsNone(bench.edit(0, 0, "-"))
        self.assertIsNone(bench.edit(1, 1))
        self.assertEqual((bench.text, bench.moment, bench.deeds, bench.log()), ("-", 2, 2, ["edit 0 0 -", "edit 1 1 "]))

    def test_rewrite(self):
        bench = Bench(P, "(z+z)")
        bench.edit(1, 1, "?")
        self.assertEqual(bench.output, "(z+_)")
        self.assertIsNone(bench.rewrite("(?+z)"))
        self.assertEqual((bench.output, bench.document.broken), ("_", (((), "(?+z)"),)))
        bench.text = "-7"
        bench.text = ""
        self.assertEqual(bench.log()[1:], ["rewrite (?+z)", "rewrite -7", "rewrite "])
        bench.text = "a b  c "
        self.assertEqual((bench.text, bench.log()[-1]), ("a b  c ", "rewrite a b  c "))

    def test_exchange(self):
        bench = Bench(P, "(z+z)")
        self.assertIsNone(bench.exchange((0,), read("Neg(Num(3))")))
        self.assertEqual((bench.text, bench.output), ("(-3+z)", "(z+-3)"))
        bench[(0, 0, 0)] = read("4")
        bench[()] = read("Add(Nil, Num(1))")
        self.assertEqual((bench.text, bench.log()),
                         ("(z+1)", ["exchange 0 Neg(Num(3))", "exchange 0.0.0 4", "exchange - Add(Nil, Num(1))"]))
        bench.edit(1, 1, "-(")
        # The place must be one of the skeleton, not of the known tree.
        self.raises(NoPlace, bench.exchange, (0, 0), read("Nil"), path=(0, 0))
        bench[(0,)] = read("Nil")
        self.assertEqual(bench.text, "(z+1)")

    def test_change(self):
        bench = Bench(P, "(-z+3)")
        self.assertIsNone(bench.change(Pipeline(TIDY, TIDY)))
        self.assertEqual((bench.output, bench.pipeline.title), ("(z+3)", "tidy.tidy"))
        bench.pipeline = Pipeline(TO_FORK)
        self.assertEqual((bench.output, bench.shown.term, bench.log()), ("(szz)", "P(S(Z), Z)", ["change tidy.tidy", "change tofork"]))

    def test_deeds_without_a_change(self):
        bench = Bench(P, "(z+z)")
        state = bench.document
        for deed in (lambda: bench.edit(1, 1, "z"), lambda: bench.edit(0, 0), lambda: bench.rewrite("(z+z)"), lambda: bench.wish("(z+z)"),
                     lambda: bench.exchange((0,), read("Nil")), lambda: bench.change(P)):
            moment = bench.moment
            deed()
            self.assertEqual((bench.text, bench.moment, bench.deeds), ("(z+z)", moment + 1, moment + 1))
            self.assertEqual(bench.patch, Patch())
        self.assertEqual(bench.log(), ["edit 1 1 z", "edit 0 0 ", "rewrite (z+z)", "wish (z+z)", "exchange 0 Nil", "change tidy"])
        self.assertEqual(state.wording, "(z+z)")
        for many in range(6):
            bench.undo()
        self.assertEqual((bench.deeds, bench.moment), (0, 12))

    def test_refused_deeds_leave_everything(self):
        bench = Bench(Pipeline(DOUBLE), "--(z+z)")
        bench.edit(3, 1, "3")
        bench.edit(3, 1, "4")
        bench.undo()
        expected, work = told(bench), bench.work
        deeds = [
            (BadIndex, lambda: bench.edit(8, 0, "z")), (BadCount, lambda: bench.edit(0, 8, "z")),
            (LimitExceeded, lambda: bench.edit(0, 0, "x" * 50)), (LimitExceeded, lambda: bench.edit(0, 0, "-" * 8)),
            (LimitExceeded, lambda: bench.rewrite("x" * 51)), (LimitExceeded, lambda: bench.rewrite("-" * 10 + "z")),
            (NoPlace, lambda: bench.exchange((9,), read("Nil"))), (WrongTree, lambda: bench.exchange((0,), read("3"))),
            (LimitExceeded, lambda: bench.exchange((0,), read("Neg(" * 9 + "Nil" + ")" * 9))),
            (LimitExceeded, lambda: bench.exchange((0,), read("Neg(" * 50 + "Nil" + ")" * 50))),
            (WrongSign, lambda: bench.wish("?")), (NoTree, lambda: bench.wish("-z")),
            (Mismatch, lambda: bench.change(Pipeline(TWICE))), (LimitExceeded, lambda: bench.rewrite("-" * 11)),
            (NoPlace, lambda: bench.since((9,))), (BadLine, lambda: bench.replay(["edit 0 0 -", "nothing"])),
        ]
        for error, deed in deeds:
            with self.assertRaises(error):
                deed()
            self.assertEqual(told(bench), expected)
        # The replay did one edit before it ended.
        self.assertEqual(bench.work, Bench(Pipeline(DOUBLE), "---(3+z)").work + work - Bench(Pipeline(DOUBLE), "--(3+z)").work)
        bench.redo()
        self.assertEqual(bench.text, "--(4+z)")

    def test_text_before_results(self):
        bench = Bench(Pipeline(DOUBLE), "z")
        self.raises(LimitExceeded, bench.rewrite, "-" * 51, limit="text")
        self.raises(LimitExceeded, bench.rewrite, "-" * 50, limit="result")
        self.raises(LimitExceeded, bench.edit, 0, 0, "-" * 50, limit="text")
        self.raises(LimitExceeded, bench.edit, 0, 0, "-" * 49, limit="result")
        self.raises(LimitExceeded, bench.exchange, (), read("Neg(" * 50 + "Nil" + ")" * 50), limit="text")

    def test_errors_of_change_in_their_order(self):
        bench = Bench(P, "z")
        self.raises(Mismatch, bench.change, chain_pipeline(LEAVES, LEAVES, LEAVES))
        self.raises(Mismatch, bench.change, Pipeline(MIXED))
        # Another source with the same kind.
        same = Table.read("table same\nExpr: Nil = z")
        self.raises(Mismatch, bench.change, Pipeline(Stage("s", same, LANG, ("a", "Expr", "Expr", ["_ => Nil"]))))
        odd = Bench(Pipeline(MIXED), "e")
        other = Stage("other", ODD, ODD, ("l", "L", "L", ["_ => Stop"]))
        self.raises(Mismatch, odd.change, Pipeline(other))
        words = word_pipeline(*TWENTY_ONE)
        many = Bench(Pipeline(Stage("s", words.source, LANG, ("a", "N", "Expr", ["_ => Nil"]))), "z")
        self.raises(LimitExceeded, many.change, words, limit="words")
        leaves = Bench(chain_pipeline([]), "ssa")
        self.raises(LimitExceeded, leaves.change, chain_pipeline(LEAVES, LEAVES, LEAVES), limit="lots")
        deep = Bench(P, "-" * 20 + "z")
        self.raises(LimitExceeded, deep.change, Pipeline(DOUBLE), limit="result")
        with self.assertRaises(Mismatch):
            deep.pipeline = Pipeline(TWICE)
        self.assertEqual((deep.moment, deep.pipeline.title), (0, "tidy"))


class UndoTest(unittest.TestCase, Raises):
    def test_nothing_left(self):
        bench = Bench(P, "z")
        self.raises(NothingLeft, bench.undo)
        self.raises(NothingLeft, bench.redo)
        bench.edit(0, 1, "3")
        self.raises(NothingLeft, bench.redo)
        self.assertIsNone(bench.undo())
        self.raises(NothingLeft, bench.undo)
        self.assertIsNone(bench.redo())
        self.raises(NothingLeft, bench.redo)
        self.assertEqual((bench.text, bench.moment, bench.log()), ("3", 3, ["edit 0 1 3", "undo", "redo"]))

    def test_all_deeds(self):
        bench = Bench(P, "(-z+3)")
        deeds = [lambda: bench.edit(2, 1, "?"), lambda: bench.exchange((0,), read("Nil")), lambda: bench.change(Pipeline(TIDY, COPY)),
                 lambda: bench.wish("(4+z)"), lambda: bench.change(Pipeline(TO_FORK)), lambda: bench.rewrite("(z")]
        states = [without_moment(bench)]
        for deed in deeds:
            deed()
            states.append(without_moment(bench))
        for _ in range(2):
            for at in range(5, -1, -1):
                bench.undo()
                self.assertEqual((without_moment(bench), bench.deeds), (states[at], at))
            for at in range(1, 7):
                bench.redo()
                self.assertEqual((without_moment(bench), bench.deeds), (states[at], at))
        self.assertEqual(bench.moment, 30)

    def test_what_ends_a_redo(self):
        for deed in (lambda bench: bench.edit(0, 0), lambda bench: bench.rewrite("z"), lambda bench: bench.wish("z"),
                     lambda bench: bench.exchange((), read("Nil")), lambda bench: bench.change(P)):
            bench = Bench(P, "z")
            bench.edit(0, 1, "3")
            bench.edit(0, 1, "4")
            bench.undo()
            bench.undo()
            self.raises(WrongSign, bench.wish, "?", at=0, expected="(-0123456789z")
            bench.redo()
            bench.undo()
            deed(bench)
            self.raises(NothingLeft, bench.redo)
            self.assertEqual(bench.deeds, 1)


class WishTest(unittest.TestCase, Raises):
    def test_a_result_that_is_there(self):
        bench = Bench(P, "(-z+3)")
        bench.wish("(3+z)")
        self.assertEqual((bench.text, bench.moment, bench.log()), ("(-z+3)", 1, ["wish (3+z)"]))

    def test_by_one_exchange(self):
        bench = Bench(P, "(-z+3)")
        bench.wish("(5+z)")
        self.assertEqual((bench.text, bench.output), ("(-z+5)", "(5+z)"))
        bench.wish("-z")
        self.assertEqual((bench.text, bench.output), ("--z", "-z"))

    def test_against_nearest(self):
        for pipeline in small_pipelines(range(40)):
            trees = right_trees(pipeline.source, 5, "4")[pipeline.takes]
            rng = Random(1)
            for _ in range(4):
                old, new = rng.choice(trees), rng.choice(trees)
                bench = Bench(pipeline, text_of(pipeline.source, old))
                wish = text_of(pipeline.target, Walk(pipeline)(new))
                try:
                    path, part = before(pipeline, TreeSet.single(pipeline.target, Walk(pipeline)(new))).nearest(old) or ((), old)
                except LimitExceeded:
                    if pipeline(old) != pipeline(new):
                        self.raises(LimitExceeded, bench.wish, wish, limit="lots")
                    continue
                bench.wish(wish)
                self.assertEqual((bench.output, bench.document.skeleton), (wish, old.exchanged(path, part)))

    def test_what_cannot_be_had(self):
        bench = Bench(Pipeline(EVENS), "z")
        bench.wish("--z")
        self.assertEqual(bench.text, "-z")
        self.raises(NoTree, bench.wish, "-z")
        self.raises(NoTree, bench.wish, "3")

    def test_errors_in_their_order(self):
        bench = Bench(P, "(z+")
        self.raises(WrongSign, bench.wish, "(z+", at=3, expected="(-0123456789z")
        self.raises(LimitExceeded, bench.wish, "-" * 61 + "z", limit="levels")
        self.raises(NotRight, bench.wish, "z")
        bench.text = "z"
        chain = "z"
        for at in range(35):
            chain = f"({at % 10}+{chain})"
        self.raises(LimitExceeded, bench.wish, chain, limit="lots")
        # If the result is there already, no set is computed.
        long = Bench(Pipeline(COPY), "-" * 40 + "z")
        long.wish("-" * 40 + "z")
        self.assertEqual(long.deeds, 1)
        self.raises(LimitExceeded, long.wish, "-" * 39 + "z", limit="lots")

    def test_wishes_that_lead_to_long_texts(self):
        wide = Stage("wide", LANG, LANG, ("w", "Expr", "Expr", ["Neg(x) => w(x)", "Add(x, y) => Add(w(x), w(y))", "Num(d) => Num(d)", "Nil => Nil"]))
        bench = Bench(Pipeline(wide), "-" * 45 + "(z+z)")
        self.raises(LimitExceeded, bench.wish, "((z+z)+z)", limit="text")
        self.assertEqual((bench.moment, bench.output), (0, "(z+z)"))


class WorkTest(unittest.TestCase, Raises):
    def jobs(self, pipeline, *texts):
        """The jobs of the trees with these texts: pairs of a word and a part."""
        walk = Walk(pipeline)
        found = set()
        for text in texts:
            tree = parse(pipeline.source, pipeline.takes, text)
            found |= {(word, tree[path].term) for path, word in walk.visits(tree)}
        return len(found)

    def test_right_documents(self):
        bench = Bench(P, "(-z+3)")
        self.assertEqual(bench.work, self.jobs(P, "(-z+3)"))
        texts = ["(-z+3)"]
        for at, removed, added in ((2, 1, "?"), (2, 1, "4"), (0, 0, "-"), (0, 1, ""), (1, 0, "---")):
            bench.edit(at, removed, added)
            if bench.document.right:
                texts.append(bench.text)
            self.assertEqual(bench.work, self.jobs(P, *texts))
        self.assertEqual(Bench(P, "(z").work, 0)

    def test_undo_and_redo(self):
        bench = Bench(P, "z")
        bench.rewrite("(3+4)")
        work = bench.work
        bench.undo()
        self.assertEqual((bench.work, work), (self.jobs(P, "z", "(3+4)"),) * 2)
        bench.redo()
        self.assertEqual(bench.work, work)

    def test_change(self):
        other = Pipeline(COPY, DOUBLE)
        bench = Bench(P, "(-z+3)")
        bench.rewrite("--3")
        works = [self.jobs(P, "(-z+3)", "--3")]
        self.assertEqual(bench.work, works[0])
        bench.change(other)
        self.assertEqual(bench.work, self.jobs(other, "--3"))
        bench.rewrite("(1+2)")
        self.assertEqual(bench.work, self.jobs(other, "--3", "(1+2)"))
        bench.change(Pipeline(TIDY))
        self.assertEqual(bench.work, self.jobs(P, "(1+2)"))
        bench.change(Pipeline(TIDY))
        bench.rewrite("7")
        self.assertEqual(bench.work, self.jobs(P, "(1+2)", "7"))
        bench.undo()
        bench.undo()
        self.assertEqual(bench.work, self.jobs(P, "(1+2)"))
        bench.undo()
        self.assertEqual(bench.work, self.jobs(other, "--3", "(1+2)"))
        bench.undo()
        bench.undo()
        self.assertEqual(bench.work, works[0])
        for _ in range(5):
            bench.redo()
        self.assertEqual(bench.work, self.jobs(P, "(1+2)", "7"))
        unfinished = Bench(P, "(z")
        unfinished.change(other)
        self.assertEqual(unfinished.work, 0)

    def test_refused_deeds_add_nothing(self):
        bench = Bench(Pipeline(DOUBLE), "z")
        work = bench.work
        self.raises(LimitExceeded, bench.rewrite, "-" * 10 + "z", limit="result")
        self.assertEqual(bench.work, work)

    def test_trials_and_replays_that_end_with_an_error(self):
        bench = Bench(P, "z")
        with self.assertRaises(KeyError):
            with bench.trial():
                bench.rewrite("(3+4)")
                raise KeyError
        self.assertEqual((bench.text, bench.work), ("z", self.jobs(P, "z", "(3+4)")))
        self.raises(BadLine, bench.replay, ["rewrite --5", "rewrite 6", "what"], line=3)
        self.assertEqual((bench.text, bench.work), ("z", self.jobs(P, "z", "(3+4)", "--5", "6")))
        with self.assertRaises(KeyError):
            with bench.trial():
                bench.change(Pipeline(COPY))
                bench.rewrite("(1+2)")
                raise KeyError
        self.assertEqual(bench.work, self.jobs(P, "z", "(3+4)", "--5", "6"))

    def test_an_exchange_by_a_part_of_the_same_lot(self):
        for pipeline in small_pipelines(range(40)):
            walk = Walk(pipeline)
            trees = right_trees(pipeline.source, 6)[pipeline.takes]
            rng = Random(2)
            bench = Bench(pipeline, text_of(pipeline.source, rng.choice(trees)))
            for _ in range(5):
                tree = bench.document.skeleton
                path = rng.choice([path for path in tree.paths() if not tree[path].name.isdigit()])
                kind = pipeline.source.maker(tree[path].name).kind
                lot = walk.lots.lot(tree[path])
                part = rng.choice([other for other in right_trees(pipeline.source, 4)[kind] if walk.lots.lot(other) == lot] or [tree[path]])
                work = bench.work
                bench.exchange(path, part)
                places = {part[place].term for place in part.paths()}
                self.assertLessEqual(bench.work - work, len(walk.words()) * (len(places) + len(path)))


class MomentTest(unittest.TestCase, Raises):
    def test_since(self):
        bench = Bench(P, "(-z+3)")
        bench.edit(4, 1, "4")
        self.assertEqual([bench.since(path) for path in ((), (0,), (0, 0), (1,))], [0, 0, 1, 0])
        bench.edit(4, 1, "3")
        self.assertEqual([bench.since(path) for path in ((), (0,), (0, 0), (1,))], [0, 0, 2, 0])
        bench.change(Pipeline(COPY))
        self.assertEqual(bench.shown.term, "Add(Neg(Nil), Num(3))")
        self.assertEqual([bench.since(path) for path in ((), (0,), (0, 0), (1,), (1, 0))], [0, 3, 3, 3, 3])
        for place in ((2,), (0, 0, 0), (1, 0, 0), (-1,)):
            self.raises(NoPlace, bench.since, place, path=place)

    def test_since_across_another_target(self):
        # The makers of this table have the same names, but other parts.
        other = FORK.description.replace("table t", "table u")
        table = type(FORK).read(other.replace("K: P K K = (12)", "K: P K digit K = (123)"))
        first = Stage("one", LANG, FORK, ("f", "Expr", "K", ["Neg(x) => S(f(x))", "Add(x, y) => P(f(x), f(y))", "_ => Z"]))
        second = Stage("two", LANG, table, ("f", "Expr", "K", ["Neg(x) => S(f(x))", "Add(x, y) => P(f(x), 0, f(y))", "_ => Z"]))
        bench = Bench(Pipeline(first), "(-z+z)")
        bench.change(Pipeline(second))
        self.assertEqual(bench.shown.term, "P(S(Z), 0, Z)")
        self.assertEqual([bench.since(path) for path in ((), (0,), (0, 0), (1,), (2,))], [0, 0, 0, 1, 1])
        self.assertEqual(bench.patch, Patch((0, 5, "(sz0z)")))

    def test_patches_of_another_target_or_kind(self):
        bench = Bench(P, "(z+z)")
        bench.change(Pipeline(TO_FORK))
        self.assertEqual(bench.patch.triples, ((0, 5, "(zz)"),))
        bench.undo()
        self.assertEqual(bench.patch.triples, ((0, 4, "(z+z)"),))
        odd = Bench(Pipeline(Stage("k", ODD, ODD, ("k", "K", "K", ["_ => End"]))), "e")
        odd.change(Pipeline(Stage("l", ODD, ODD, ("k", "K", "L", ["_ => Stop"]))))
        self.assertEqual(odd.patch.triples, ((0, 1, "."),))
        odd.change(Pipeline(Stage("m", ODD, ODD, ("k", "K", "L", ["_ => Stop"]))))
        self.assertEqual(odd.patch.triples, ())

    def test_patches_of_holes_of_another_kind(self):
        first = Stage("k", ODD, ODD, ("k", "K", "K", ["Swap(x, y) => Swap(k(x), Stop)", "_ => End"]))
        second = Stage("l", ODD, ODD, ("k", "K", "L", ["Swap(x, y) => List(End, k(x))", "_ => Stop"]))
        bench = Bench(Pipeline(first))
        bench.change(Pipeline(second))
        self.assertEqual((bench.output, bench.patch.triples), ("_", ((0, 1, "_"),)))
        bench.change(Pipeline(second))
        self.assertEqual(bench.patch.triples, ())

    def test_holes_in_patches(self):
        bench = Bench(Pipeline(COPY), "(z+3)")
        bench.edit(1, 1, "-")
        self.assertEqual((bench.output, bench.patch.triples), ("(-_+3)", ((1, 2, "-_"),)))
        bench.edit(2, 0, "z")
        self.assertEqual((bench.output, bench.patch.triples), ("(-z+3)", ((2, 3, "z"),)))
        bench.edit(4, 1, "?")
        self.assertEqual((bench.output, bench.patch.triples), ("(-z+_)", ((4, 5, "_"),)))
        bench.rewrite("(")
        self.assertEqual((bench.output, bench.patch.triples), ("(_+_)", ((1, 3, "_"), (4, 5, "_"))))

    def test_the_order_of_the_text(self):
        same = Stage("same", ODD, ODD, ("k", "K", "K", ["Swap(x, y) => Swap(k(x), l(y))", "Both(d, x, e) => Both(d, k(x), e)", "End => End"]),
                     ("l", "L", "L", ["List(x, y) => List(k(x), l(y))", "Stop => Stop", "One(d, e) => One(d, e)"]))
        bench = Bench(Pipeline(same), "<.,e>")
        bench.rewrite("<[e:.,<.,e>>")
        self.assertEqual(bench.patch.triples, ((1, 2, "[e:."), (3, 4, "<.,e>")))


class RandomTest(unittest.TestCase, Raises):
    """Random deeds against lists of all that the bench had."""

    PIPELINES = [P, Pipeline(TIDY, COPY), Pipeline(COPY), Pipeline(TO_FORK), Pipeline(DOUBLE), Pipeline(EVENS), Pipeline(TIDY)]

    def deed(self, rng, bench):
        length = len(bench.text)
        at = rng.randint(0, length)
        paths = list(bench.document.skeleton.paths())
        return rng.choice([
            lambda: bench.edit(at, min(rng.randint(0, 2), length - at), rng.choice(["", "z", "-", "(", "3", "?", " "])),
            lambda: bench.edit(at, min(1, length - at), rng.choice(["z", "-", "3"])),
            lambda: bench.rewrite(rng.choice(["(-z+3)", "((z+z)+-4)", "z", "--3", "(z+", "what"])),
            lambda: bench.exchange(rng.choice(paths), read(rng.choice(["Nil", "Num(2)", "5", "Neg(Nil)", "Neg(_)"]))),
            lambda: bench.wish(rng.choice(["(3+z)", "z", "--z", "(zz)", "sz"])),
            lambda: bench.change(rng.choice(self.PIPELINES)),
            bench.undo, bench.undo, bench.redo,
        ])

    def test_everything(self):
        counts = Counter()
        for seed in range(40):
            rng = Random(seed)
            bench = Bench(P, rng.choice(["", "(-z+3)", "z"]))
            start = bench.text
            shown, documents = [bench.shown], [bench.document]
            done, undone = [], []
            for _ in range(25):
                now = bench.document, bench.pipeline
                old = bench.output, bench.shown, bench.pipeline
                state, lines = told(bench), bench.log()
                try:
                    self.deed(rng, bench)()
                except WorkError:
                    self.assertEqual(told(bench), state)
                    counts["refused"] += 1
                    continue
                line = bench.log()[-1]
                self.assertEqual(bench.log()[:-1], lines)
                word = line.split(" ")[0]
                counts[word] += 1
                if word == "undo":
                    undone.append(now)
                    self.assertEqual((bench.document, bench.pipeline), done.pop())
                elif word == "redo":
                    done.append(now)
                    self.assertEqual((bench.document, bench.pipeline), undone.pop())
                else:
                    done.append(now)
                    undone = []
                shown.append(bench.shown)
                documents.append(bench.document)
                self.assertEqual((bench.moment, bench.deeds), (len(shown) - 1, len(done)))
                self.compare(bench, shown, *old)
            again = Bench(P, start)
            again.replay(bench.log(), *self.PIPELINES)
            self.assertEqual(told(again), told(bench))
            for _ in range(len(undone)):
                again.redo()
                bench.redo()
                self.assertEqual(told(again), told(bench))
        self.assertTrue(all(counts[word] > 5 for word in ("edit", "rewrite", "exchange", "wish", "change", "undo", "redo", "refused")), counts)

    def compare(self, bench, shown, output, tree, pipeline):
        self.assertEqual(bench.output, text_of(bench.pipeline.target, bench.shown))
        self.assertEqual(bench.shown, sure_result(Sure(bench.pipeline), bench.document.known))
        self.assertEqual(bench.patch(output), bench.output)
        for path in bench.shown.paths():
            names = [bench.shown[path[:depth]].name for depth in range(len(path) + 1)]
            since = len(shown) - 1
            while since > 0 and path in shown[since - 1] and [shown[since - 1][path[:d]].name for d in range(len(path) + 1)] == names:
                since -= 1
            self.assertEqual(bench.since(path), since)
        if pipeline.target == bench.pipeline.target:
            places = [path for path in tree.paths() if path in bench.shown
                      and all(tree[path[:d]].name == bench.shown[path[:d]].name for d in range(len(path)))
                      and tree[path].name != bench.shown[path].name]
            self.assertEqual([added for _, _, added in bench.patch.triples],
                             [text_of(bench.pipeline.target, bench.shown[path]) for path in places])
        else:
            self.assertEqual(bench.patch, Patch((0, len(output), bench.output)))


class ReplayTest(unittest.TestCase, Raises):
    def test_each_kind_of_line(self):
        bench = Bench(P, "z")
        bench.replay(["edit 0 1 (z+ z)", "edit 3 1 ", "rewrite (3+z)", "exchange 0.0 7", "exchange 1 Neg(Neg(Num(1)))", "wish (z+7)",
                      "change tidy.copy", "undo", "redo", "exchange - Nil", "rewrite ", "undo"], Pipeline(TIDY, COPY))
        self.assertEqual((bench.text, bench.moment, bench.deeds, bench.pipeline.title), ("z", 12, 8, "tidy.copy"))
        self.assertEqual(bench.log()[:2], ["edit 0 1 (z+ z)", "edit 3 1 "])
        bench.redo()
        self.assertEqual(bench.text, "")

    def test_replay_is_no_deed(self):
        bench = Bench(P, "z")
        self.assertIsNone(bench.replay([]))
        self.assertEqual((bench.moment, bench.log()), (0, []))
        bench.replay(["edit 0 0 -"])
        self.assertEqual((bench.moment, bench.deeds), (1, 1))

    def test_titles(self):
        first, second = Pipeline(COPY), Pipeline(Stage("copy", LANG, LANG, ("c", "Expr", "Expr", ["_ => Nil"])))
        bench = Bench(P, "3")
        bench.replay(["change copy"], P, first, second)
        self.assertEqual(bench.output, "3")
        bench.replay(["change copy"], second, first)
        self.assertEqual(bench.output, "z")
        self.raises(BadLine, bench.replay, ["change tidy"], first, second, line=1)
        self.raises(BadLine, bench.replay, ["edit 0 0 -", "change copy"], P, line=2)

    def test_lines_without_a_form(self):
        bench = Bench(P, "(-z+3)")
        bench.edit(2, 1, "4")
        bench.undo()
        expected = told(bench)
        for line in (
            "", " ", "edit", "edit ", "edit 0", "edit 0 0", "edit 0  ", "edit  0 0 z", "edit -1 0 z", "edit 00 0 z", "edit 0 01 z", "edit 0 +1 z",
            "edit x 0 z", "edit 0 x z", "Edit 0 0 z", "edit  0 0", "rewrite", "rewritez", "wish", "exchange", "exchange 0", "exchange 0 ",
            "exchange  Nil", "exchange 00 Nil", "exchange 0.01 Nil", "exchange 0. Nil", "exchange .0 Nil", "exchange -1 Nil", "exchange 0,1 Nil",
            "exchange 0 Add(Nil,Nil)", "exchange 0 nil", "exchange 0 Nil ", "exchange -  Nil", "change", "change ", "change other", "change tidy ",
            "undo ", "redo ", "undo 1", "UNDO", "replay", "trial",
        ):
            self.raises(BadLine, bench.replay, [line], P, line=1)
            self.raises(BadLine, bench.replay, ["edit 0 0 -", "undo", "redo", line, "nothing"], P, line=4)
            self.assertEqual(told(bench), expected)

    def test_lines_whose_deeds_are_refused(self):
        bench = Bench(P, "(-z+3)")
        expected = told(bench)
        for line, error, fields in (
            ("edit 9 0 z", BadIndex, {"index": 9}), ("edit 0 9 z", BadCount, {"count": 9}), ("edit 0 0 " + "x" * 60, LimitExceeded, {"limit": "text"}),
            ("rewrite " + "x" * 51, LimitExceeded, {"limit": "text"}), ("exchange 5 Nil", NoPlace, {"path": (5,)}),
            ("exchange 0 Add(Nil, _)", WrongTree, {"path": (1,)}), ("exchange 0 3", WrongTree, {"path": ()}),
            ("wish ?", WrongSign, {"at": 0, "expected": "(-0123456789z"}), ("undo", NothingLeft, {}), ("redo", NothingLeft, {}),
            ("change twice", Mismatch, {}),
        ):
            self.raises(error, bench.replay, [line], Pipeline(TWICE), **fields)
            self.assertEqual(told(bench), expected)
        self.raises(NotRight, bench.replay, ["rewrite (", "wish z"])
        self.raises(BadLine, bench.replay, ["rewrite (", "huh", "wish z"], line=2)
        self.assertEqual(told(bench), expected)

    def test_the_list_is_not_changed(self):
        bench = Bench(P, "z")
        lines = ["edit 0 0 -"]
        bench.replay(lines)
        bench.log().append("undo")
        self.assertEqual((lines, bench.log()), (["edit 0 0 -"], ["edit 0 0 -"]))
        bench.replay(bench.log())
        self.assertEqual(bench.text, "--z")


class TrialTest(unittest.TestCase, Raises):
    def test_with_an_exception(self):
        for error in (KeyError, KeyboardInterrupt, BadLine, GeneratorExit):
            bench = Bench(P, "(-z+3)")
            bench.edit(2, 1, "4")
            bench.edit(2, 1, "5")
            bench.undo()
            expected = told(bench)
            with self.assertRaises(error):
                with bench.trial() as same:
                    self.assertIs(same, bench)
                    bench.text = "z"
                    bench.change(Pipeline(TO_FORK))
                    bench.undo()
                    raise error(1) if error is BadLine else error()
            self.assertEqual(told(bench), expected)
            bench.redo()
            self.assertEqual(bench.text, "(-5+3)")

    def test_without_one(self):
        bench, other = Bench(P, "(-z+3)"), Bench(P, "(-z+3)")
        with bench.trial():
            bench.text = "z"
            bench.undo()
        other.text = "z"
        other.undo()
        self.assertEqual(told(bench), told(other))

    def test_errors_of_deeds(self):
        bench = Bench(P, "z")
        with self.assertRaises(NoPlace):
            with bench.trial():
                bench.text = "(z+z)"
                bench[(7,)] = read("Nil")
        self.assertEqual((bench.text, bench.moment), ("z", 0))
        with bench.trial():
            bench.text = "(z+z)"
            with self.assertRaises(NoPlace):
                bench[(7,)] = read("Nil")
        self.assertEqual((bench.text, bench.moment), ("(z+z)", 1))

    def test_nested(self):
        bench = Bench(P, "z")
        with bench.trial():
            bench.text = "3"
            with self.assertRaises(KeyError):
                with bench.trial():
                    bench.text = "4"
                    raise KeyError
            self.assertEqual((bench.text, bench.moment), ("3", 1))
            bench.edit(0, 1, "5")
        self.assertEqual((bench.text, bench.log()), ("5", ["rewrite 3", "edit 0 1 5"]))
        with self.assertRaises(KeyError):
            with bench.trial():
                bench.text = "6"
                with bench.trial():
                    bench.text = "7"
                raise KeyError
        self.assertEqual((bench.text, bench.moment), ("5", 2))

    def test_the_class(self):
        self.assertIsInstance(Bench(P).trial(), Trial)


class ReportTest(unittest.TestCase):
    def test_a_right_document(self):
        self.assertEqual(list(Bench(P, "(-z+3)").report()), ["(-z+3)", "      ", "(3+z)"])

    def test_broken_parts(self):
        bench = Bench(P, "((z+3)+-z)")
        bench.edit(4, 1, "4?")
        bench.edit(8, 2, "(")
        bench.edit(2, 1, "")
        self.assertEqual(list(bench.report()), [
            "((+4?)+()", "   xx  ~ ", bench.output, "  1   2   2  unfinished", "  2   3   5  wrong", "  3   7   8  unfinished"])

    def test_the_whole(self):
        self.assertEqual(list(Bench(P).report()), ["", "", "_", "  1   0   0  unfinished"])
        self.assertEqual(list(Bench(P, "(z+").report()), ["(z+", "~~~", "(_+z)", "  1   0   3  unfinished"])
        self.assertEqual(list(Bench(P, "z3").report()), ["z3", "xx", "_", "  1   0   2  wrong"])
        self.assertEqual(list(Bench(P, "x" * 50).report())[3], "  1   0  50  wrong")

    def test_the_order_of_the_wording(self):
        bench = Bench(Pipeline(MIXED), "<.,e>")
        bench.edit(3, 1, "!")
        bench.edit(1, 1, "[")
        self.assertEqual(list(bench.report())[3:], ["  1   1   2  unfinished", "  2   3   4  wrong"])


class BoundsTest(unittest.TestCase, Raises):
    def test_50_characters_and_many_deeds(self):
        pipeline = Pipeline(TIDY, COPY, TIDY, COPY)
        bench = Bench(pipeline, "(" * 12 + "z" + "+z)" * 12)
        self.assertEqual(len(bench.text), 49)
        for at in range(60):
            bench.edit(12, 1, "3" if at % 2 else "z")
        bench.edit(0, 0, "-")
        self.assertEqual((len(bench.text), bench.moment), (50, 61))
        for _ in range(61):
            bench.undo()
        self.assertEqual((bench.moment, bench.deeds, bench.document.right), (122, 0, True))
        again = Bench(pipeline, "(" * 12 + "z" + "+z)" * 12)
        again.replay(bench.log())
        self.assertEqual(told(again), told(bench))


if __name__ == "__main__":
    unittest.main()
