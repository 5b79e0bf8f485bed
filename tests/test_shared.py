import unittest
from collections import Counter
from random import Random

from bounds import BIGGER, FORKED, GROWING, LEAVES, chain_pipeline, growing_stage, unfolding_pipeline
from helpers import LANG, ODD, Raises, read, right_trees
from samples import small_pipelines
from test_groves import FORK, chain, doubled, entries_of
from treeworks.errors import BadIndex, BadPack, LimitExceeded, Mismatch, Unknown
from treeworks.groves import Grove
from treeworks.pipelines import Pipeline
from treeworks.shared import SharedRun, pack, unpack
from treeworks.stages import Stage
from treeworks.tables import Table
from treeworks.walks import Walk

TWICE = Stage("twice", FORK, FORK, ("a", "K", "K", ["S(x) => P(a(x), a(x))", "P(x, y) => P(a(x), a(y))", "Z => Z"]))
# The makers of ODD by their indexes: Swap 0, Both 1, End 2, List 3, Stop 4, One 5.


def packed(table, term):
    grove = Grove(table)
    return pack(grove, grove.put(read(term)))


class PackTest(unittest.TestCase, Raises):
    def test_groups(self):
        self.assertEqual(packed(FORK, "Z"), [2])
        self.assertEqual(packed(FORK, "S(S(Z))"), [2, 0, 0, 0, 1])
        self.assertEqual(packed(FORK, "P(P(Z, S(Z)), S(Z))"), [2, 0, 0, 1, 0, 1, 1, 2, 1])
        self.assertEqual(packed(ODD, "Both(3, Swap(End, One(4, 3)), 9)"), [2, 5, 4, 3, 0, 0, 1, 1, 3, 2, 9])
        self.raises(BadIndex, pack, Grove(LANG), 0, index=0)
        self.raises(BadIndex, pack, Grove(LANG), -1, index=-1)

    def test_whatever_the_grove_is_like(self):
        rng = Random(5)
        for table in (LANG, ODD):
            trees = [tree for kind, found in right_trees(table, 5).items() if kind != "digit" for tree in found]
            alone = {tree.term: packed(table, tree.term) for tree in trees}
            rows = [tuple(row) for row in alone.values()]
            self.assertEqual(len(set(rows)), len(rows))
            grove = Grove(table)
            rng.shuffle(trees)
            for tree in trees:
                self.assertEqual(pack(grove, grove.put(tree)), alone[tree.term])

    def test_lists_are_new(self):
        grove = Grove(FORK)
        number = grove.put(read("S(Z)"))
        pack(grove, number).clear()
        self.assertEqual(pack(grove, number), [2, 0, 0])

    def test_entries_with_very_many_nodes(self):
        grove, other = Grove(FORK), Grove(FORK)
        number = doubled(grove, 1000)
        row = pack(grove, number)
        self.assertEqual(row, [2, *[part for at in range(1000) for part in (1, at, at)]])
        again = unpack(other, "K", row)
        self.assertEqual((again, other.entries, other.size_of(again)), (1000, 1001, grove.size_of(number)))
        self.assertEqual(len(pack(other, unpack(other, "K", pack(grove, chain(grove, 1999))))), 3999)


class UnpackTest(unittest.TestCase, Raises):
    def test_reading_back(self):
        for table in (LANG, ODD):
            for kind, trees in right_trees(table, 5).items():
                for tree in trees if kind != "digit" else []:
                    one, two = Grove(table), Grove(table)
                    number = unpack(two, kind, pack(one, one.put(tree)))
                    self.assertEqual((two.unfolded(number), entries_of(two)), (tree, entries_of(one)))

    def test_into_a_grove_that_has_some_entries(self):
        grove = Grove(LANG)
        grove.put(read("Add(Num(7), Nil)"))
        row = packed(LANG, "Neg(Add(Nil, Num(7)))")
        self.assertEqual(unpack(grove, "Expr", row), 4)
        self.assertEqual(entries_of(grove), [("Num", ("7",)), ("Nil", ()), ("Add", (0, 1)), ("Add", (1, 0)), ("Neg", (3,))])
        self.assertEqual((unpack(grove, "Expr", row), grove.entries), (4, 5))
        self.assertEqual(row, packed(LANG, "Neg(Add(Nil, Num(7)))"))

    def fails(self, table, kind, row, at):
        grove = Grove(table)
        grove.put(table.least(table.kinds[0]))
        before, copy = entries_of(grove), list(row)
        self.raises(BadPack, unpack, grove, kind, row, at=at)
        self.assertEqual((entries_of(grove), row), (before, copy))

    def test_makers(self):
        for number in (-1, 3, 99, -3, 10 ** 30):
            self.fails(FORK, "K", [number], 0)
            self.fails(FORK, "K", [2, number], 1)
            self.fails(FORK, "K", [2, 0, 0, number, 1], 3)

    def test_digits(self):
        for digit in range(10):
            grove = Grove(LANG)
            self.assertEqual(grove.unfolded(unpack(grove, "Expr", [2, digit])), read(f"Num({digit})"))
        for digit in (-1, 10, 55, -10 ** 20):
            self.fails(LANG, "Expr", [2, digit], 1)
            self.fails(ODD, "L", [5, 3, digit], 2)

    def test_groups_that_are_not_before(self):
        for number in (-1, 1, 2, 99):
            self.fails(FORK, "K", [2, 0, number], 2)
            self.fails(FORK, "K", [2, 1, 0, number], 3)
        self.fails(FORK, "K", [0, 0], 1)

    def test_groups_of_another_kind(self):
        self.fails(ODD, "K", [2, 0, 0, 0], 3)
        self.fails(ODD, "K", [4, 1, 3, 0, 4], 3)
        self.fails(ODD, "K", [2, 4, 0, 1, 0], 3)

    def test_a_list_that_ends_within_a_group(self):
        self.fails(FORK, "K", [1], 1)
        self.fails(FORK, "K", [2, 0], 2)
        self.fails(FORK, "K", [2, 1, 0], 3)
        self.fails(ODD, "K", [2, 1, 3, 0], 4)

    def test_no_group_and_another_kind(self):
        self.fails(FORK, "K", [], 0)
        self.fails(ODD, "L", [2], 0)
        self.fails(ODD, "K", [2, 4, 0, 0, 1, 3, 2, 1], 5)
        self.fails(ODD, "L", [2, 4, 0, 0, 1], 2)

    def test_lists_that_are_no_pack_of_their_tree(self):
        # Groups in another order, twice, and not needed.
        self.fails(LANG, "Expr", [3, 2, 4, 0, 1, 0], 0)
        self.fails(LANG, "Expr", [3, 3, 0, 0, 1], 1)
        self.fails(LANG, "Expr", [3, 1, 0, 1, 0, 0, 1, 2], 3)
        self.fails(FORK, "K", [2, 0, 0, 2], 1)
        self.fails(FORK, "K", [2, 2], 1)
        self.fails(FORK, "K", [2, 0, 0, 0, 1, 1, 0, 1], 3)
        self.fails(FORK, "K", [2, 2, 0, 0], 1)
        self.fails(FORK, "K", [2, 0, 0, 0, 0, 1, 1, 2], 3)

    def test_the_first_of_several_faults(self):
        self.fails(FORK, "K", [2, 0, 9, 7, 1], 2)
        self.fails(ODD, "K", [1, 10, 5, -1], 1)
        self.fails(ODD, "K", [1, 3, 5], 2)
        self.fails(ODD, "L", [2, 2, 7], 2)
        self.fails(ODD, "L", [2, 2], 1)
        self.fails(ODD, "K", [2, 4, 4], 2)
        self.fails(FORK, "K", [2, 2, 0], 3)
        self.fails(FORK, "K", [2, 1, 5, 9], 2)

    def test_unknown_kinds_come_first(self):
        for kind in ("L", "digit", "", "S"):
            for row in ([], [2], [99]):
                self.raises(Unknown, unpack, Grove(FORK), kind, row, name=kind)

    def test_any_list_is_read_back_or_refused(self):
        rng = Random(11)
        counts = Counter()
        for _ in range(3000):
            row = [rng.randint(-1, 6) for _ in range(rng.randint(0, 6))]
            grove = Grove(ODD)
            try:
                number = unpack(grove, "K", row)
            except BadPack as error:
                counts["refused"] += 1
                self.assertTrue(0 <= error.at <= len(row))
                self.assertEqual(grove.entries, 0)
            else:
                counts["read"] += 1
                self.assertEqual(pack(grove, number), row)
                other = Grove(ODD)
                self.assertEqual(pack(other, other.put(grove.unfolded(number))), row)
        self.assertGreater(counts["read"], 20)


class SharedRunTest(unittest.TestCase, Raises):
    def test_example(self):
        grove = Grove(FORK)
        run = SharedRun(Pipeline(TWICE), grove, grove)
        self.assertEqual((run.worked, run.total), (0, 0))
        number = run(grove.put(read("S(S(S(Z)))")))
        self.assertEqual([number, run.worked, grove.length_of(number), grove.window(number, 0, 5), grove.path_at(number, 3)],
                         [6, 4, 22, "(((zz", (0, 0, 0)])
        self.assertEqual(pack(grove, number), [2, 1, 0, 0, 1, 1, 1, 1, 2, 2])

    def test_against_the_walk(self):
        for pipeline in small_pipelines(range(60)):
            walk = Walk(pipeline)
            source, target = Grove(pipeline.source), Grove(pipeline.target)
            run = SharedRun(pipeline, source, target)
            jobs = set()
            for tree in right_trees(pipeline.source, 6)[pipeline.takes][::11]:
                number = source.put(tree)
                before = (len(jobs), target.entries)
                jobs |= {(word, tree[path].term) for path, word in walk.visits(tree)}
                result = run(number)
                self.assertEqual(target.unfolded(result), walk(tree))
                self.assertEqual((run.worked, run.total), (len(jobs) - before[0], len(jobs)))
                # Only what the result needs is added.
                needed = {walk(tree)[path].term for path in walk(tree).paths() if walk(tree)[path].name in pipeline.target}
                added = {target.unfolded(at).term for at in range(before[1], target.entries)}
                self.assertLessEqual(added, needed)
                self.assertEqual(needed, {target.unfolded(at).term for at in range(target.entries)} & needed)
                for at, (_, parts) in enumerate(entries_of(target)):
                    self.assertTrue(all(isinstance(part, str) or part < at for part in parts))

    def test_one_grove_and_two_groves(self):
        for pipeline in small_pipelines(range(60)):
            if pipeline.source == pipeline.target:
                one = Grove(pipeline.source)
                run = SharedRun(pipeline, one, one)
                walk = Walk(pipeline)
                for tree in right_trees(pipeline.source, 6)[pipeline.takes][::17]:
                    self.assertEqual(one.unfolded(run(one.put(tree))), walk(tree))

    def test_jobs_are_remembered(self):
        source, target = Grove(FORK), Grove(FORK)
        run = SharedRun(Pipeline(TWICE), source, target)
        first = source.put(read("S(S(Z))"))
        self.assertEqual([(run(number), run.worked, run.total) for number in (first, first, 0, 1)],
                         [(2, 3, 3), (2, 0, 3), (0, 0, 3), (1, 0, 3)])
        partly = source.put(read("P(S(S(Z)), S(S(S(Z))))"))
        self.assertEqual((run(partly), run.worked, run.total, target.entries), (4, 2, 5, 5))

    def test_results_of_very_many_nodes(self):
        source, target = Grove(FORK), Grove(FORK)
        run = SharedRun(Pipeline(TWICE, TWICE), source, target)
        number = run(chain(source, 1200))
        self.assertEqual((target.size_of(number), run.worked, target.entries), (2 ** 1201 - 1, 1201, 1201))
        self.assertEqual(run(chain(source, 1201)), 1201)
        self.assertEqual((run.worked, run.total), (1, 1202))
        number = run(chain(source, 5000))
        self.assertEqual((target.levels_of(number), run.total), (5001, 5001))

    def test_words_that_give_digits(self):
        table = Table.read("table d\nN: D digit N = d12\nN: Z = z")
        stage = Stage("s", table, table, ("a", "N", "N", ["D(d, x) => D(f(x), a(x))", "Z => D(5, Z)"]),
                      ("f", "N", "digit", ["D(d, x) => d", "Z => 7"]))
        grove = Grove(table)
        run = SharedRun(Pipeline(stage), grove, grove)
        result = run(grove.put(read("D(1, D(2, Z))")))
        self.assertEqual(grove.unfolded(result), read("D(2, D(7, D(5, Z)))"))
        # a at three entries, f at the two lower ones.
        self.assertEqual((run.worked, run.total), (5, 5))
        self.assertEqual((grove.unfolded(run(grove.put(read("D(9, D(2, Z))")))).term, run.worked), ("D(2, D(7, D(5, Z)))", 1))

    def test_refusals_in_their_order(self):
        lang, fork = Grove(LANG), Grove(FORK)
        up = Stage("up", FORK, LANG, ("u", "K", "Expr", ["S(x) => Neg(u(x))", "_ => Nil"]))
        self.raises(Mismatch, SharedRun, Pipeline(up), lang, lang)
        self.raises(Mismatch, SharedRun, Pipeline(up), fork, fork)
        run = SharedRun(Pipeline(up), fork, lang)
        for number in (-1, 0, 5):
            self.raises(BadIndex, run, number, index=number)
        self.assertEqual(lang.unfolded(run(fork.put(read("S(S(Z))")))), read("Neg(Neg(Nil))"))
        odd = Grove(ODD)
        stage = Stage("s", ODD, ODD, ("a", "K", "K", ["_ => End"]))
        run = SharedRun(Pipeline(stage), odd, odd)
        self.raises(Mismatch, run, odd.put(read("Stop")))
        self.raises(BadIndex, run, 1, index=1)

    def test_too_many_lots(self):
        grove = Grove(FORKED)
        SharedRun(chain_pipeline(LEAVES, LEAVES, LEAVES[:5], [], table=FORKED), grove, grove)
        pipeline = chain_pipeline(LEAVES, LEAVES, LEAVES, [], table=FORKED)
        self.raises(LimitExceeded, SharedRun, pipeline, grove, grove, limit="lots")
        self.raises(Mismatch, SharedRun, pipeline, Grove(LANG), grove)
        self.raises(Mismatch, SharedRun, pipeline, grove, Grove(LANG))

    def test_refused_runs_change_nothing(self):
        pipeline = Pipeline(*[growing_stage(f"s{at}", BIGGER) for at in range(4)])
        grove = Grove(GROWING)
        run = SharedRun(pipeline, grove, grove)
        good, bad = grove.put(read("S(S(Z))")), grove.put(read("S(P(Z, Z))"))
        self.assertEqual((run(good), run.worked), (good, 3))
        before = entries_of(grove)
        for _ in range(2):
            self.raises(LimitExceeded, run, bad, limit="unfolded")
            self.assertEqual((run.worked, run.total, entries_of(grove)), (3, 3, before))
        self.assertEqual((run(good), run.worked, run.total), (good, 0, 3))

    def test_unfolded_trees_of_50000_names(self):
        for row, refused in (("P(x, y) => P(S(f(x)), S(S(a(y))))", False), ("P(x, y) => P(S(S(f(x))), S(S(a(y))))", True)):
            grove = Grove(GROWING)
            run = SharedRun(unfolding_pipeline(row), grove, grove)
            number = grove.put(read("P(Z, Z)"))
            if refused:
                self.raises(LimitExceeded, run, number, limit="unfolded")
                self.assertEqual((run.worked, run.total, grove.entries), (0, 0, 2))
            else:
                self.assertGreater(grove.size_of(run(number)), 20000)


if __name__ == "__main__":
    unittest.main()
