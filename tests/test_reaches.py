import unittest
from itertools import product

from bounds import CHAIN, FORKED, LEAVES, chain_pipeline
from helpers import LANG, ODD, Raises, read, right_trees
from samples import small_pipelines
from test_lots import TIDY
from treeworks.errors import LimitExceeded, NoPlace, WrongTree
from treeworks.lots import lots_of
from treeworks.pipelines import Pipeline
from treeworks.reaches import frames_changed, ranks, reach, reaching, ring
from treeworks.stages import Stage
from treeworks.tables import Table

NAT = Table.read("table nat\nN: S N = s1\nN: Z = z\nN: D digit N = d12")


def nat_stage(name, *rows):
    return Stage(name, NAT, NAT, ("a", "N", "N", list(rows)))


# Two exchanges that lead to each other: whether the number of S is even.
EVEN = Pipeline(
    Stage("even", NAT, NAT, ("a", "N", "N", ["S(x) => b(x)", "_ => Z"]), ("b", "N", "N", ["S(x) => a(x)", "_ => S(Z)"])),
    nat_stage("look", "S(x:Z) => Z", "_ => Z"),
)
TOP = Pipeline(nat_stage("top", "S(x:S(S(Z))) => Z", "_ => Z"))
PLAIN = Pipeline(nat_stage("plain", "S(x) => S(a(x))", "_ => Z"))
SAMPLES = small_pipelines(range(90))


def slow_leads(lots, triple):
    """The triples to which one leads, and the lots of a node that shows it, found from the steps of the table."""
    kind, old, new = triple
    for maker in lots.table:
        for at, want in enumerate(maker.wants):
            if want == kind:
                rows = [range(lots.many(other)) for other in maker.wants]
                rows[at] = [old]
                for chosen in product(*rows):
                    after = (*chosen[:at], new, *chosen[at + 1:])
                    before, behind = lots.step(maker.name, *chosen), lots.step(maker.name, *after)
                    if before != behind:
                        yield maker.kind, before, behind


def slow_ranks(lots):
    """The rank of each pair of lots, worked out step by step, or None if it never ends."""
    triples = [(kind, old, new) for kind in lots.table.kinds
               for old in range(lots.many(kind)) for new in range(lots.many(kind)) if old != new]
    leads = {triple: set(slow_leads(lots, triple)) for triple in triples}
    ranked = {triple: 0 for triple in triples}
    for _ in range(len(triples) + 1):
        following = {triple: max([ranked[after] + 1 for after in leads[triple]], default=0) for triple in triples}
        if following == ranked:
            return ranked
        ranked = following
    return None


def slow_frames(lots, tree, path, part):
    new = tree.exchanged(path, part)
    return len([depth for depth in range(len(path)) if lots.lot(tree[path[:depth]]) != lots.lot(new[path[:depth]])])


class FramesTest(unittest.TestCase, Raises):
    def test_single_cases(self):
        tree = read("S(S(S(S(Z))))")
        self.assertEqual(lots_of(TOP).many("N"), 4)
        for path, part, many in (((), "Z", 0), ((0,), "Z", 1), ((0, 0), "Z", 2), ((0, 0, 0), "Z", 2), ((0, 0, 0, 0), "S(Z)", 2),
                                 ((0, 0, 0), "S(Z)", 0), ((0,), "S(S(Z))", 0), ((0, 0), "D(4, Z)", 0)):
            changed = frames_changed(TOP, tree, path, read(part))
            self.assertEqual((changed, changed), (many, slow_frames(lots_of(TOP), tree, path, read(part))), (path, part))
        self.assertEqual(frames_changed(TOP, tree, (), read("Z")), 0)
        self.assertEqual(frames_changed(TOP, tree, (0, 0), tree[(0, 0)]), 0)
        self.assertEqual(frames_changed(TOP, read("S(S(S(Z)))"), (0, 0, 0), read("D(1, Z)")), 2)
        self.assertEqual(frames_changed(PLAIN, tree, (0, 0, 0), read("Z")), 0)

    def test_digits(self):
        tree = read("S(D(3, S(Z)))")
        self.assertEqual(frames_changed(TOP, tree, (0, 0), read("7")), 0)

    def test_against_the_lots_of_all_frames(self):
        for pipeline in SAMPLES[:40]:
            trees = right_trees(pipeline.source, 6, "3")
            lots = lots_of(pipeline)
            for kind in pipeline.source.kinds:
                for tree in trees[kind][-12::4]:
                    for path in tree.paths():
                        due = kind
                        for at, name in [(at, tree[path[:depth]].name) for depth, at in enumerate(path)]:
                            due = pipeline.source.maker(name).wants[at]
                        for part in trees[due][:6]:
                            changed = frames_changed(pipeline, tree, path, part)
                            self.assertEqual(changed, slow_frames(lots, tree, path, part))

    def test_changed_frames_are_the_innermost_ones(self):
        for pipeline in SAMPLES[:20]:
            lots = lots_of(pipeline)
            for tree in right_trees(pipeline.source, 6, "3")[pipeline.takes][-6:]:
                for path in tree.paths():
                    if path and tree[path].name in pipeline.source:
                        part = pipeline.source.least(pipeline.source.maker(tree[path].name).kind)
                        changed = frames_changed(pipeline, tree, path, part)
                        new = tree.exchanged(path, part)
                        same = [lots.lot(tree[path[:depth]]) == lots.lot(new[path[:depth]]) for depth in range(len(path))]
                        self.assertEqual(same, [True] * (len(path) - changed) + [False] * changed)

    def test_errors_in_their_order(self):
        large = chain_pipeline(LEAVES, LEAVES, LEAVES)
        for pipeline in (TOP, Pipeline(*TOP.stages)):
            for term in ("3", "_", "Foo"):
                self.raises(WrongTree, frames_changed, pipeline, read(term), (9,), read("_"), path=())
            self.raises(WrongTree, frames_changed, pipeline, read("S(D(Z, Z))"), (9,), read("_"), path=(0, 0))
            self.raises(WrongTree, frames_changed, pipeline, read("S(_)"), (0,), read("Z"), path=(0,))
            self.raises(NoPlace, frames_changed, pipeline, read("S(Z)"), (1,), read("_"), path=(1,))
            self.raises(WrongTree, frames_changed, pipeline, read("S(Z)"), (0,), read("3"), path=())
            self.raises(WrongTree, frames_changed, pipeline, read("S(Z)"), (0,), read("S(S(_))"), path=(0, 0))
            self.raises(WrongTree, frames_changed, pipeline, read("D(3, Z)"), (0,), read("Z"), path=())
        self.raises(WrongTree, frames_changed, large, read("Foo"), (9,), read("_"), path=())
        self.raises(NoPlace, frames_changed, large, read("S(A)"), (9,), read("_"), path=(9,))
        self.raises(WrongTree, frames_changed, large, read("S(A)"), (0,), read("_"), path=())
        self.raises(LimitExceeded, frames_changed, large, read("S(A)"), (0,), read("A"), limit="lots")

    def test_trees_of_any_kind(self):
        stage = Stage("s", ODD, ODD, ("a", "K", "K", ["Swap(x:Swap(_, _), y:List(_, _)) => End", "_ => End"]))
        tree = read("List(Swap(End, Stop), Stop)")
        self.assertEqual(frames_changed(Pipeline(stage), tree, (0,), read("End")), 0)
        self.assertEqual(frames_changed(Pipeline(stage), tree, (0, 1), read("One(1, 2)")), 0)
        self.assertEqual(frames_changed(Pipeline(stage), read("Swap(Swap(End, Stop), Stop)"), (0,), read("End")), 0)


class ReachTest(unittest.TestCase, Raises):
    def test_without_guards(self):
        self.assertEqual((reach(PLAIN), ranks(PLAIN), ring(PLAIN)), (0, [], None))
        self.assertEqual(reach(Pipeline(Stage("s", LANG, LANG, ("a", "Expr", "Expr", ["_ => Nil"])))), 0)

    def test_with_a_greatest_number(self):
        self.assertEqual(reach(TOP), 2)
        self.assertIsNone(ring(TOP))
        self.assertEqual(reach(Pipeline(nat_stage("a", "S(x:S(Z)) => Z", "_ => Z"))), 1)
        self.assertEqual(reach(Pipeline(nat_stage("a", "S(x:Z) => Z", "_ => Z"))), 0)

    def test_without_a_greatest_number(self):
        self.assertIsNone(reach(EVEN))
        self.assertIsNone(ranks(EVEN))
        self.assertIsNotNone(ring(EVEN))

    def test_ranks_by_what_they_say(self):
        counts = {"ring": 0, "none": 0, "some": 0}
        for pipeline in [*SAMPLES, EVEN, TOP, PLAIN, Pipeline(TIDY)]:
            lots = lots_of(pipeline)
            slow = slow_ranks(lots)
            found = ranks(pipeline)
            if slow is None:
                self.assertEqual((found, reach(pipeline)), (None, None))
                counts["ring"] += 1
            else:
                expected = [(lots.least(kind, old), lots.least(kind, new), slow[(kind, old, new)]) for kind, old, new in slow]
                self.assertEqual(found, expected)
                self.assertEqual(reach(pipeline), max([rank for _, _, rank in found], default=0))
                self.assertIsNone(ring(pipeline))
                counts["some" if reach(pipeline) else "none"] += 1
        self.assertTrue(all(many >= 5 for many in counts.values()), counts)

    def test_the_order_of_ranks(self):
        lots = lots_of(TOP)
        pairs = [(lots.lot(old), lots.lot(new)) for old, new, _ in ranks(TOP)]
        self.assertEqual(pairs, [(old, new) for old in range(4) for new in range(4) if old != new])
        self.assertEqual([(old.term, new.term, rank) for old, new, rank in ranks(TOP)][:3],
                         [("Z", "S(Z)", 2), ("Z", "D(0, Z)", 2), ("Z", "S(S(Z))", 2)])

    def test_every_number_up_to_the_reach(self):
        for pipeline in [*SAMPLES, EVEN, TOP, PLAIN]:
            most = reach(pipeline)
            for frames in range(21):
                found = reaching(pipeline, frames)
                if most is not None and frames > most:
                    self.assertIsNone(found)
                else:
                    tree, path, part = found
                    self.assertEqual(len(path), frames)
                    self.assertEqual(frames_changed(pipeline, tree, path, part), frames)

    def test_frames_0(self):
        tree, path, part = reaching(PLAIN, 0)
        self.assertEqual(path, ())
        self.assertEqual(frames_changed(PLAIN, tree, path, part), 0)

    def test_rings_triple_by_triple(self):
        many = 0
        for pipeline in [*SAMPLES, EVEN]:
            found = ring(pipeline)
            self.assertEqual(found is None, reach(pipeline) is not None)
            if found is not None:
                many += 1
                lots = lots_of(pipeline)
                numbered = []
                for kind, old, new in found:
                    pipeline.source.check(old, kind)
                    pipeline.source.check(new, kind)
                    self.assertNotEqual(lots.lot(old), lots.lot(new))
                    numbered.append((kind, lots.lot(old), lots.lot(new)))
                for at, triple in enumerate(numbered):
                    self.assertIn(numbered[(at + 1) % len(numbered)], set(slow_leads(lots, triple)))
        self.assertGreater(many, 10)

    def test_a_ring_with_parts_beside_the_exchanged_one(self):
        table = Table.read("table t\nK: P K L = (12)\nK: A = a\nK: B = b\nL: C = c\nL: E = e")
        rows = ["P(x, y:C) => q(x)", "P(x, y) => A", "A => A", "B => B"]
        stage = Stage("s", table, table, ("p", "K", "K", ["P(x, y) => A", "_ => A"]), ("q", "K", "K", rows))
        look = Stage("l", table, table, ("p", "K", "K", ["P(x:A, y) => A", "_ => A"]))
        pipeline = Pipeline(stage, look)
        found = ring(pipeline)
        lots = lots_of(pipeline)
        for at, (kind, old, new) in enumerate(found):
            after = found[(at + 1) % len(found)]
            triples = set(slow_leads(lots, (kind, lots.lot(old), lots.lot(new))))
            self.assertIn((after[0], lots.lot(after[1]), lots.lot(after[2])), triples)
        tree, path, part = reaching(pipeline, 20)
        self.assertEqual(frames_changed(pipeline, tree, path, part), 20)
        self.assertTrue(all(tree[path[:depth]].parts[1].term == "C" for depth in range(1, 20)))

    def test_kinds_with_one_lot(self):
        stage = Stage("s", ODD, ODD, ("a", "K", "K", ["Swap(x:End, y) => End", "_ => End"]))
        kinds = {read(old.term).name for old, _, _ in ranks(Pipeline(stage))}
        self.assertEqual(lots_of(Pipeline(stage)).many("L"), 1)
        self.assertEqual({ODD.maker(name).kind for name in kinds}, {"K"})

    def test_too_many_lots(self):
        large = chain_pipeline(LEAVES, LEAVES, LEAVES)
        for call in (reach, ring, ranks):
            self.raises(LimitExceeded, call, large, limit="lots")
        for frames in (0, 1, 20):
            self.raises(LimitExceeded, reaching, large, frames, limit="lots")

    def test_lists_are_new(self):
        ranks(TOP).clear()
        ring(EVEN).clear()
        self.assertEqual((len(ranks(TOP)), len(ring(EVEN)) > 0), (12, True))

    def test_30_lots(self):
        for table in (CHAIN, FORKED):
            pipeline = chain_pipeline(LEAVES, LEAVES, LEAVES[:5], [], table=table)
            self.assertEqual(len(ranks(pipeline)), 30 * 29)
            self.assertEqual(reach(pipeline), max(rank for _, _, rank in ranks(pipeline)))
            tree, path, part = reaching(pipeline, reach(pipeline))
            self.assertEqual(frames_changed(pipeline, tree, path, part), reach(pipeline))
            self.assertIsNone(reaching(pipeline, reach(pipeline) + 1))


if __name__ == "__main__":
    unittest.main()
