import unittest
from collections import Counter
from random import Random

from bounds import LEAVES, chain_pipeline
from helpers import LANG, ODD, Raises, read
from samples import small_pipelines
from slow import slow_accepts
from test_groves import FORK
from test_lots import MIXED, TIDY
from test_reaches import EVEN, PLAIN, TOP
from treeworks.certificates import Reach, Shown
from treeworks.checker import accepts
from treeworks.errors import LimitExceeded
from treeworks.lots import lots_of
from treeworks.making import show_reach, show_sure
from treeworks.pipelines import Pipeline
from treeworks.reaches import ranks, reach
from treeworks.stages import Stage
from treeworks.sure import Sure, sure_result
from treeworks.trees import Tree

TREE = read("Add(Neg(_), Num(7))")
LOTS = ["Nil", "Neg(Nil)", "0"]
LINE = [("t", "Nil", "Nil")]
OPEN = [((1,), "Add(Neg(Nil), Num(7))", "Add(Neg(Num(1)), Num(7))")]


def shown(title="tidy", term="Add(Neg(_), Num(7))", pattern="Add(Num(7), _)", lots=LOTS, shows=LINE, openings=OPEN):
    return Shown(title, term, pattern, lots, shows, openings)


class ShownTest(unittest.TestCase, Raises):
    def accepted(self, certificate, *stages):
        self.assertTrue(accepts(certificate, *(stages or (TIDY,))))
        self.assertTrue(slow_accepts(certificate, *(stages or (TIDY,))))

    def refused(self, certificate, *stages):
        self.assertIs(accepts(certificate, *(stages or (TIDY,))), False)
        self.assertFalse(slow_accepts(certificate, *(stages or (TIDY,))))

    def test_accepted(self):
        self.accepted(shown())
        self.assertIs(accepts(shown(), TIDY), True)
        self.accepted(shown(shows=[]))
        self.accepted(shown(lots=["0", "Neg(Nil)", "Nil"]))
        # Other trees of the lots, of any size.
        self.accepted(shown(lots=["Num(4)", "9", "Nil"]))
        self.accepted(shown(lots=["Add(Nil, Neg(Neg(Num(1))))", "Nil", "7"]))
        self.accepted(shown(term="Neg(Nil)", pattern="Nil", shows=[], openings=[]))
        self.accepted(shown(term="_", pattern="_", shows=[], openings=[((), "Nil", "Num(1)")]))

    def test_titles(self):
        self.refused(shown(title="other"))
        self.refused(shown(title="tidy.tidy.tidy.tidy.tidy"))
        self.refused(shown(title="tidy.up"))
        self.refused(shown(title="up"))
        self.assertFalse(accepts(shown()))
        up = Stage("up", FORK, LANG, ("u", "K", "Expr", ["S(x) => Neg(u(x))", "_ => Nil"]))
        self.refused(shown(title="tidy.up"), TIDY, up)
        self.accepted(Shown("up.tidy", "S(Z)", "Nil", ["Z", "S(Z)"], [], []), TIDY, up)

    def test_stages_with_the_same_name(self):
        other = Stage("tidy", LANG, LANG, ("t", "Expr", "Expr", ["_ => Nil"]))
        self.accepted(shown(), TIDY, other)
        self.refused(shown(), other, TIDY)
        self.accepted(Shown("tidy", "_", "Nil", ["Nil", "0"], [("t", "Nil", "Nil")], []), other, TIDY)

    def test_first_trees(self):
        self.refused(shown(term="Foo"))
        self.refused(shown(term="3", pattern="3", openings=[]))
        self.refused(shown(term="Add(Neg(_), Num(Nil))"))
        self.refused(shown(term="Add(Neg(_), _)"))

    def test_listed_trees(self):
        for lots in (["Nil", "Neg(Nil)"], ["Nil", "0"], ["Neg(Nil)", "0"], [], ["0"]):
            self.refused(shown(lots=lots))
        for more in ("Num(3)", "Nil", "1", "0", "Foo", "Neg(Neg(Nil))", "Neg(3)", "Add(Nil)", "Neg(Foo)"):
            self.refused(shown(lots=[*LOTS, more]))
            self.refused(shown(lots=[more, *LOTS]))
        self.refused(shown(lots=["Nil", "Neg(_)", "0"]))
        self.refused(shown(lots=["Nil", "_", "0"]))
        self.refused(shown(lots=["Nil", "Neg(Foo)", "0"], shows=[]))

    def test_digits_where_none_is_wanted(self):
        for lots, fits in ((["Z"], True), (["Z", "4"], True), (["4", "Z"], True), (["Z", "4", "5"], False), (["4"], False)):
            certificate = Shown("s", "S(_)", "S(_)", lots, [], [((0,), "S(Z)", "S(S(Z))")])
            stage = Stage("s", FORK, FORK, ("a", "K", "K", ["S(x) => S(a(x))", "_ => Z"]))
            (self.accepted if fits else self.refused)(certificate, stage)

    def test_lines(self):
        self.refused(shown(shows=[("t", "Nil", "Neg(_)")]))
        self.refused(shown(shows=[("t", "Nil", "Neg(Nil)")]))
        self.refused(shown(shows=[("t", "Neg(Nil)", "Nil")]))
        self.refused(shown(shows=[("t", "Neg(Nil)", "Neg(_)")]))
        self.refused(shown(shows=[("t", "Nil", "Foo")]))
        self.refused(shown(shows=[*LINE, *LINE]))
        self.refused(shown(shows=[*LINE, ("t", "Nil", "_")]))
        # Patterns that are smaller than the largest ones.
        self.accepted(shown(shows=[("t", "Nil", "_")]))
        self.accepted(shown(shows=[*LINE, ("t", "Neg(Nil)", "_")]))

    def test_lines_of_wrong_words_and_trees(self):
        for word in ("u", "t.t", "tidy", "digit"):
            self.refused(shown(shows=[(word, "Nil", "_")]))
        for term in ("Num(3)", "Neg(Neg(Nil))", "0", "Foo", "1"):
            self.refused(shown(shows=[("t", term, "_")]))
        certificate = show_sure(Pipeline(MIXED), read("Swap(_, Stop)"))
        self.accepted(certificate, MIXED)
        listed = dict.fromkeys(certificate.lots)
        for word, term in (("k", "Stop"), ("l", "End"), ("g", "0")):
            if term in listed:
                fields = (certificate.title, certificate.term, certificate.pattern, certificate.lots)
                self.refused(Shown(*fields, [(word, term, "_")], certificate.openings), MIXED)

    def test_the_first_pattern(self):
        self.refused(shown(pattern="Add(_, _)"))
        self.refused(shown(pattern="Add(Num(7), Neg(_))"))
        self.refused(shown(pattern="Add(Num(8), _)"))
        self.refused(shown(pattern="Add(Num(7), Nil)", openings=[]))
        self.refused(shown(pattern="_", openings=[]))
        self.refused(shown(pattern="Neg(_)"))
        self.refused(shown(pattern="Add(_)"))

    def test_patterns_that_do_not_follow_without_a_line(self):
        tree = read("Neg(Add(_, Nil))")
        folding = Stage("fold", LANG, LANG, ("f", "Expr", "Expr", ["Add(x, y) => Add(Nil, f(y))", "Neg(x) => Neg(f(x))", "_ => Nil"]))
        certificate = show_sure(Pipeline(folding, folding), tree)
        self.assertEqual(certificate.pattern, "Neg(Add(Nil, Nil))")
        self.accepted(certificate, folding)
        claim = Shown("fold.fold", "Neg(_)", "Neg(_)", certificate.lots, [], [((0,), "Neg(Nil)", "Neg(Add(Nil, Nil))")])
        self.accepted(claim, folding)
        only = Stage("only", LANG, LANG, ("o", "Expr", "Expr", ["Neg(x) => Neg(c(x))", "_ => Nil"]), ("c", "Expr", "Expr", ["_ => Num(5)"]))
        for shows, fits in (([("c", "Nil", "Num(5)")], True), ([], False), ([("c", "Nil", "Num(_)")], False)):
            claim = Shown("only", "Neg(_)", "Neg(Num(5))", ["Nil", "0"], shows, [])
            (self.accepted if fits else self.refused)(claim, only)

    def test_holes(self):
        self.refused(shown(openings=[]))
        self.refused(shown(openings=[*OPEN, *OPEN]))
        self.refused(shown(openings=[*OPEN, ((0,), *OPEN[0][1:])]))
        self.refused(shown(openings=[((), *OPEN[0][1:])]))
        self.refused(shown(openings=[((0, 0), *OPEN[0][1:])]))
        self.refused(shown(openings=[((7,), *OPEN[0][1:])]))
        for first, second in (
            ("Add(Neg(Nil), Num(8))", "Add(Neg(Num(1)), Num(7))"), ("Add(Neg(Nil), Num(7))", "Neg(Nil)"),
            ("Add(Neg(Foo), Num(7))", "Add(Neg(Num(1)), Num(7))"), ("Add(Neg(3), Num(7))", "Add(Neg(Nil), Num(7))"),
            ("Add(Neg(Num(2)), Num(7))", "Add(Neg(Num(1)), Num(7))"), ("Add(Neg(Nil), Num(7))", "Add(Neg(Nil), Num(7))"),
            ("Add(Neg(Nil), Num(7))", "Add(Neg(_), Num(7))"),
        ):
            self.refused(shown(openings=[((1,), first, second)]))
            self.refused(shown(openings=[((1,), second, first)]))

    def test_holes_in_any_order(self):
        certificate = show_sure(Pipeline(TIDY), read("Add(Neg(_), Neg(Neg(_)))"))
        self.assertEqual(len(certificate.openings), 2)
        self.accepted(certificate)
        fields = (certificate.title, certificate.term, certificate.pattern, certificate.lots, certificate.shows)
        self.accepted(Shown(*fields, certificate.openings[::-1]))
        self.refused(Shown(*fields, certificate.openings[:1]))
        self.refused(Shown(*fields, [certificate.openings[0]] * 2))

    def test_what_read_would_refuse(self):
        for certificate in (
            shown(title="Tidy"), shown(title=""), shown(term="Add(Neg(_),Num(7))"), shown(pattern="x"), shown(lots=[*LOTS, ""]),
            shown(shows=[("T", "Nil", "_")]), shown(shows=[("t", "Nil", "")]), shown(openings=[((-1,), *OPEN[0][1:])]),
            shown(pattern="Add(Num(7), _)\nlot Nil", lots=["Neg(Nil)", "0"]),
        ):
            self.assertIs(accepts(certificate, TIDY), False)

    def test_runs_that_are_too_large(self):
        double = Stage("double", LANG, LANG, ("d", "Expr", "Expr", ["Neg(x) => Add(d(x), d(x))", "_ => Nil"]))
        for many, fits in ((8, True), (9, False)):
            listed = "Neg(" * many + "Nil" + ")" * many
            # A node above the listed tree has one level more.
            for title in ("double", "double.double"):
                certificate = Shown(title, "Nil", "Nil", [listed, "5"], [], [])
                (self.accepted if fits else self.refused)(certificate, double)
        deep = "Neg(" * 58 + "Nil" + ")" * 58
        copy = Stage("copy", LANG, LANG, ("c", "Expr", "Expr", ["Neg(x) => Neg(c(x))", "_ => Nil"]))
        self.accepted(Shown("copy", "Nil", "Nil", [deep, "5"], [], []), copy)
        self.refused(Shown("copy", "Nil", "Nil", [f"Neg({deep})", "5"], [], []), copy)

    def test_runs_of_states_that_nothing_calls(self):
        stage = Stage("s", LANG, LANG, ("a", "Expr", "Expr", ["_ => Nil"]),
                      ("d", "Expr", "Expr", ["Neg(x) => Add(d(x), d(x))", "_ => Nil"]))
        for many, fits in ((7, True), (8, True), (9, False)):
            listed = "Neg(" * many + "Nil" + ")" * many
            certificate = Shown("s", "_", "Nil", [listed, "5"], [("a", listed, "Nil")], [])
            (self.accepted if fits else self.refused)(certificate, stage)

    def test_results_on_the_way_for_holes(self):
        double = Stage("double", LANG, LANG, ("d", "Expr", "Expr", ["Neg(x) => Add(d(x), d(x))", "_ => Nil"]))
        drop = Stage("drop", LANG, LANG, ("a", "Expr", "Expr", ["Add(x, y) => Neg(Nil)", "_ => Nil"]))
        for many, fits in ((9, True), (10, False)):
            large = "Neg(" * many + "Nil" + ")" * many
            certificate = Shown("double.drop", "_", "_", lot_terms(Pipeline(double, drop)), [], [((), "Nil", large)])
            (self.accepted if fits else self.refused)(certificate, double, drop)

    def test_trees_found_upwards_that_are_too_large(self):
        keep = Stage("keep", LANG, LANG, ("k", "Expr", "Expr", ["Neg(x) => Neg(k(x))", "Add(x, y) => Add(k(x), k(y))", "_ => Nil"]))
        for levels, fits in ((58, True), (59, True), (60, False)):
            term = "Neg(" * levels + "Nil" + ")" * levels
            (self.accepted if fits else self.refused)(Shown("keep", term, term, ["Nil", "0"], [], []), keep)


def lot_terms(pipeline):
    return [line[14:] for line in lots_of(pipeline).lines()]


class ReachTest(unittest.TestCase, Raises):
    TERMS = lot_terms(TOP)
    RANKS = [(old.term, new.term, rank) for old, new, rank in ranks(TOP)]

    def accepted(self, certificate, *stages):
        self.assertTrue(accepts(certificate, *stages))
        self.assertTrue(slow_accepts(certificate, *stages))

    def refused(self, certificate, *stages):
        self.assertIs(accepts(certificate, *stages), False)
        self.assertFalse(slow_accepts(certificate, *stages))

    def test_accepted(self):
        self.accepted(Reach("top", 2, self.TERMS, self.RANKS), *TOP)
        self.accepted(Reach("top", 9, self.TERMS, self.RANKS), *TOP)
        self.accepted(Reach("top", 2, self.TERMS[::-1], self.RANKS[::-1]), *TOP)
        self.accepted(Reach("plain", 0, ["Z", "4"], []), *PLAIN)
        self.accepted(Reach("plain", 0, ["S(S(D(1, Z)))", "4"], []), *PLAIN)
        # Greater ranks than needed.
        self.accepted(Reach("top", 30, self.TERMS, [(old, new, 10 * rank + 3) for old, new, rank in self.RANKS]), *TOP)

    def test_titles_and_lists(self):
        self.refused(Reach("other", 2, self.TERMS, self.RANKS), *TOP)
        self.refused(Reach("top.top.top.top.top", 2, self.TERMS, self.RANKS), *TOP)
        self.refused(Reach("top", 2, self.TERMS[:-1], self.RANKS), *TOP)
        self.refused(Reach("top", 2, self.TERMS[1:], self.RANKS), *TOP)
        self.refused(Reach("top", 2, [*self.TERMS, "1"], self.RANKS), *TOP)
        self.refused(Reach("top", 2, [*self.TERMS, "D(4, Z)"], self.RANKS), *TOP)

    def test_ranks(self):
        for at in range(len(self.RANKS)):
            self.refused(Reach("top", 2, self.TERMS, self.RANKS[:at] + self.RANKS[at + 1:]), *TOP)
            self.refused(Reach("top", 2, self.TERMS, [*self.RANKS, self.RANKS[at]]), *TOP)
            old, new, rank = self.RANKS[at]
            self.refused(Reach("top", 2, self.TERMS, [*self.RANKS[:at], (old, new, 3), *self.RANKS[at + 1:]]), *TOP)
            if rank > 0:
                self.refused(Reach("top", 2, self.TERMS, [*self.RANKS[:at], (old, new, rank - 1), *self.RANKS[at + 1:]]), *TOP)
        self.refused(Reach("top", 1, self.TERMS, self.RANKS), *TOP)
        self.refused(Reach("top", 0, self.TERMS, []), *TOP)

    def test_wrong_pairs(self):
        for more in (("Z", "Z", 0), ("0", "0", 0), ("0", "1", 0), ("Z", "0", 0), ("Z", "Foo", 0), ("S(D(3, Z))", "Z", 0), ("Foo", "Foo", 0)):
            self.refused(Reach("top", 2, self.TERMS, [*self.RANKS, more]), *TOP)
        kinds = Stage("s", ODD, ODD, ("a", "K", "K", ["Swap(x:Swap(_, _), y:List(_, _)) => End", "_ => End"]))
        certificate = show_reach(Pipeline(kinds))
        self.accepted(certificate, kinds)
        fields = (certificate.title, certificate.frames, certificate.lots)
        for more in (("End", "Stop", 0), ("Stop", "End", 0)):
            self.refused(Reach(*fields, [*certificate.ranks, more]), kinds)

    def test_rings_are_never_accepted(self):
        terms = lot_terms(EVEN)
        pairs = [(old, new) for old in terms for new in terms if old != new and not old.isdigit() and not new.isdigit()]
        for rank in (0, 5):
            self.refused(Reach("even.look", 99, terms, [(old, new, rank) for old, new in pairs]), *EVEN)
        self.refused(Reach("even.look", 99, terms, [(old, new, 10 * at) for at, (old, new) in enumerate(pairs)]), *EVEN)

    def test_what_read_would_refuse(self):
        for certificate in (Reach("top", -1, self.TERMS, self.RANKS), Reach("Top", 2, self.TERMS, self.RANKS),
                            Reach("top", 2, [*self.TERMS, "S(_)"], self.RANKS), Reach("top", 2, self.TERMS, [("Z", "S(Z)", -2)])):
            self.assertIs(accepts(certificate, *TOP), False)

    def test_runs_that_are_too_large(self):
        double = Stage("double", LANG, LANG, ("d", "Expr", "Expr", ["Neg(x) => Add(d(x), d(x))", "_ => Nil"]))
        for many, fits in ((7, True), (8, True), (9, False), (10, False)):
            certificate = Reach("double", 0, ["Neg(" * many + "Nil" + ")" * many, "5"], [])
            (self.accepted if fits else self.refused)(certificate, double)


class ManyLotsTest(unittest.TestCase, Raises):
    def test_lots_that_are_too_many(self):
        pipeline = chain_pipeline(LEAVES, LEAVES, LEAVES)
        self.raises(LimitExceeded, lots_of, pipeline, limit="lots")
        # The lots are the chains of at most four S above a leaf, and one more.
        listed = ["S(" * many + leaf + ")" * many for leaf in LEAVES for many in range(5)]
        title = ".".join(stage.name for stage in pipeline)
        found = [term for term in listed if accepts(Shown(title, "A", "A", [*listed, "S(S(S(S(S(A)))))"], [], []), *pipeline)]
        self.assertEqual(found, listed)
        self.assertFalse(accepts(Shown(title, "A", "A", listed, [], []), *pipeline))
        self.assertFalse(accepts(Shown(title, "A", "A", [*listed[1:], "S(S(S(S(S(A)))))"], [], []), *pipeline))
        self.assertTrue(accepts(Shown(title, "S(S(S(_)))", "_", [*listed, "S(S(S(S(S(A)))))"], [], [((), "S(S(S(A)))", "S(S(S(B)))")]),
                                *pipeline))

    def test_a_large_reach(self):
        pipeline = chain_pipeline(LEAVES, LEAVES, LEAVES[:5])
        certificate = show_reach(pipeline)
        self.assertEqual((len(certificate.ranks), accepts(certificate, *pipeline)), (870, True))
        fields = (certificate.title, certificate.frames, certificate.lots)
        self.assertFalse(accepts(Reach(*fields, certificate.ranks[1:]), *pipeline))


class RandomTest(unittest.TestCase):
    """Certificates of random pipelines, and such with random faults, against the slow way."""

    def trees(self, rng, pipeline):
        """A tree with holes of the kind that the pipeline takes."""
        tree = Tree("_")
        dues = {(): pipeline.takes}
        for _ in range(rng.randint(0, 3)):
            path = rng.choice(sorted(dues))
            due = dues.pop(path)
            if due == "digit":
                tree = tree.exchanged(path, Tree(rng.choice("0123")))
            else:
                maker = rng.choice(pipeline.source.makers(due))
                tree = tree.exchanged(path, Tree(maker.name, *[Tree("_") for _ in maker.wants]))
                dues.update({(*path, at): want for at, want in enumerate(maker.wants)})
            if not dues:
                break
        return tree

    def other_tree(self, rng, term):
        """A tree that differs from another one at one place, or has a hole there."""
        tree = read(term)
        path = rng.choice(list(tree.paths()))
        part = rng.choice([Tree("_"), Tree("_"), Tree("3"), tree, tree[path[:-1]], tree[rng.choice(list(tree.paths()))]])
        return tree.exchanged(path, part).term

    def faulty(self, rng, certificate):
        """The certificate with one random change."""
        fields = {name: getattr(certificate, name) for name in vars(certificate) if name != "claim"}
        name = rng.choice([name for name in fields if name != "title"])
        value = fields[name]
        if isinstance(value, str):
            fields[name] = self.other_tree(rng, value)
        elif isinstance(value, int):
            fields[name] = max(0, value + rng.choice([-1, 1]))
        elif value:
            at = rng.randrange(len(value))
            row = value[at]
            if rng.random() < 0.4:
                new = [[], [row, row], [rng.choice(value)]][rng.randrange(3)]
            elif isinstance(row, str):
                new = [self.other_tree(rng, row)]
            else:
                field = rng.randrange(len(row))
                other = rng.choice(value)[field]
                if isinstance(row[field], int):
                    other = max(0, row[field] + rng.choice([-1, 1]))
                elif isinstance(row[field], str) and field > 0 and rng.random() < 0.7:
                    other = self.other_tree(rng, row[field])
                new = [(*row[:field], other, *row[field + 1:])]
            fields[name] = [*value[:at], *new, *value[at + 1:]]
        return certificate.__class__(**fields)

    def test_against_the_slow_way(self):
        counts = Counter()
        for seed, pipeline in enumerate(small_pipelines(range(60), 2)):
            rng = Random(seed)
            sure = Sure(pipeline)
            certificates = [show_sure(pipeline, self.trees(rng, pipeline)) for _ in range(2)]
            if reach(pipeline) is not None:
                certificates.append(show_reach(pipeline))
            for certificate in certificates:
                self.assertTrue(accepts(certificate, *pipeline))
                for _ in range(6):
                    faulty = self.faulty(rng, certificate)
                    accepted = accepts(faulty, *pipeline)
                    self.assertEqual(accepted, slow_accepts(faulty, *pipeline), "\n".join(faulty.lines()))
                    counts[accepted] += 1
                    if accepted and isinstance(faulty, Shown):
                        self.assertEqual(sure_result(sure, read(faulty.term)).term, faulty.pattern)
                    elif accepted:
                        self.assertLessEqual(reach(pipeline), faulty.frames)
        self.assertGreater(min(counts.values()), 100)


if __name__ == "__main__":
    unittest.main()
