import unittest
from collections import Counter
from random import Random

from bounds import (
    LEAVES, LOADS_2000, LOADS_2001, TWENTY, TWENTY_ONE, BIGGER, chain_pipeline, growing_stage, line_pipeline, load_pipeline,
    load_stage, many_loads, word_pipeline,
)
from helpers import LANG, Raises, read, right_trees
from samples import small_pipelines
from test_groves import FORK
from test_lots import TIDY
from test_shared import TWICE
from test_walks import COPY, DOUBLE, MORE
from treeworks.effects import effect
from treeworks.errors import LimitExceeded
from treeworks.flows import Letter, after_letter
from treeworks.growing import Growing
from treeworks.loads import copies, copying, growth, spread, spreading
from treeworks.pipelines import Pipeline
from treeworks.stages import Stage
from treeworks.sure import Sure
from treeworks.tables import Table

NUMS = Table.read("table nums\nN: P N N = (12)\nN: S N = s1\nN: D digit N = d12\nN: Z = z")


def stage(name, *states):
    """A stage over NUMS; each state is a name with its rows, and the last row `_ => Z` is added."""
    return Stage(name, NUMS, NUMS, *[(state, "N", "N", [*rows, "_ => Z"]) for state, *rows in states])


# Two ways from a to a: with each `S` the number doubles.
DOUBLING = Pipeline(stage("double", ("a", "S(x) => P(a(x), a(x))", "D(d, x) => D(d, a(x))")))
# One more b with each `S`, and the b stay.
FEEDING = Pipeline(stage("feed", ("a", "S(x) => P(a(x), b(x))", "D(d, x) => D(d, Z)"),
                         ("b", "S(x) => S(b(x))", "D(d, x) => P(D(d, Z), D(d, Z))")))
# Two ways that part and meet again, with one state each in between.
MEETING = Pipeline(stage("meet", ("a", "S(x) => P(b(x), c(x))", "D(d, x) => D(d, a(x))"), ("b", "S(x) => a(x)"),
                         ("c", "S(x) => S(a(x))")))
# As FEEDING, but b and c take turns, and so does a.
TURNS = Pipeline(stage("turns", ("a", "S(x) => P(d(x), b(x))"), ("d", "D(d, x) => S(a(x))"),
                       ("b", "D(d, x) => D(d, c(x))"), ("c", "S(x) => S(b(x))")))
# b is called again and again, but it gives the same each time.
CONSTANT = Pipeline(stage("const", ("a", "S(x) => P(a(x), b(x))", "D(d, x) => D(d, Z)"), ("b", "S(x) => b(x)")))
# Trees are copied again and again, but a digit only once.
DROPPING = Pipeline(stage("drop", ("a", "S(x) => P(a(x), b(x))", "D(d, x) => D(d, a(x))"), ("b", "S(x) => S(b(x))")))


def origins_of(pipeline, tree):
    return Counter(path for _, path in pipeline.origins(tree) if path is not None)


def spread_of(sure, tree, path):
    return len(effect(sure, tree, path, kept=True))


def put_into(grown, many):
    """The tree that arises from a growth with so many loops, and the path in it."""
    way, loop, part, path = grown
    for _ in range(many):
        part, path = loop.filled(part), loop.holes()[0] + path
    return way.filled(part), way.holes()[0] + path


class SpreadTest(unittest.TestCase, Raises):
    def test_single_cases(self):
        self.assertEqual((spread(Pipeline(TIDY)), copies(Pipeline(TIDY))), (1, 1))
        self.assertEqual((spread(Pipeline(TWICE)), copies(Pipeline(TWICE))), (None, 0))
        self.assertEqual((spread(CONSTANT), copies(CONSTANT)), (1, 1))
        self.assertEqual((spread(DROPPING), copies(DROPPING)), (None, 1))
        constant = Pipeline(Stage("c", LANG, LANG, ("a", "Expr", "Expr", ["_ => Nil"])))
        self.assertEqual((spread(constant), copies(constant)), (0, 0))

    def test_copies_of_copies(self):
        once = stage("once", ("a", "S(x) => P(b(x), b(x))", "P(x, y) => P(a(x), a(y))", "D(d, x) => D(d, a(x))"),
                     ("b", "S(x) => S(b(x))", "P(x, y) => P(b(x), b(y))", "D(d, x) => D(d, b(x))"))
        self.assertEqual([copies(Pipeline(*[once] * many)) for many in (1, 2, 3, 4)], [2, 4, 8, 16])
        top = stage("top", ("a", "P(x, y) => P(P(b(x), b(x)), b(y))", "S(x) => P(b(x), P(b(x), b(x)))"),
                    ("b", "S(x) => S(b(x))", "P(x, y) => P(b(x), b(y))", "D(d, x) => D(d, b(x))"))
        for many in (1, 2, 3):
            pipeline = Pipeline(*[top] * many)
            trees = right_trees(NUMS, 6, "4")["N"]
            most = max(max(origins_of(pipeline, tree).values(), default=0) for tree in trees)
            self.assertEqual((spread(pipeline), copies(pipeline)), (most, most))

    def test_states_that_drop(self):
        drop = stage("drop", ("a", "S(x) => a(x)", "P(x, y) => a(x)", "D(d, x) => a(x)"))
        self.assertEqual((spread(Pipeline(drop)), copies(Pipeline(drop))), (0, 0))
        self.assertEqual((spread(DOUBLING + Pipeline(drop)), copies(DOUBLING + Pipeline(drop))), (0, 0))
        keep = stage("keep", ("a", "P(x, y) => a(x)", "S(x) => S(a(x))", "D(d, x) => D(d, a(x))"))
        self.assertEqual((spread(DOUBLING + Pipeline(keep)), copies(DOUBLING + Pipeline(keep))), (1, 1))

    def test_digits_that_no_tree_has(self):
        self.assertEqual(copies(Pipeline(TWICE)), 0)
        self.assertIsNone(copying(Pipeline(TWICE), 0))
        self.assertIsNone(copying(Pipeline(TWICE), 1))
        # A kind with digits that no tree of the taken kind contains.
        table = Table.read("table t\nK: A = a\nK: B K = b1\nL: One digit K = 12")
        away = Stage("away", table, table, ("k", "K", "K", ["B(x) => B(k(x))", "_ => A"]))
        self.assertEqual((copies(Pipeline(away)), copying(Pipeline(away), 0), spread(Pipeline(away))), (0, None, 1))

    def test_words_that_give_digits(self):
        digit = Stage("d", NUMS, NUMS, ("a", "N", "N", ["S(x) => D(f(x), D(f(x), a(x)))", "D(d, x) => D(d, a(x))", "_ => Z"]),
                      ("f", "N", "digit", ["D(d, x) => d", "_ => 3"]))
        self.assertEqual((copies(Pipeline(digit)), spread(Pipeline(digit))), (3, 3))
        tree, path = copying(Pipeline(digit), 3)
        self.assertGreaterEqual(origins_of(Pipeline(digit), tree)[path], 3)

    def test_against_origins_and_kept_effects(self):
        counts = Counter()
        for pipeline in small_pipelines(range(70)):
            sure = Sure(pipeline)
            most, most_copies = spread(pipeline), copies(pipeline)
            seen, seen_copies = 0, 0
            for tree in right_trees(pipeline.source, 6)[pipeline.takes][::9]:
                origins = origins_of(pipeline, tree)
                for path in tree.paths():
                    many = spread_of(sure, tree, path)
                    seen = max(seen, many)
                    if tree[path].name.isdigit():
                        self.assertEqual(many, origins[path])
                        seen_copies = max(seen_copies, many)
            self.assertTrue(most is None or seen <= most)
            self.assertTrue(most_copies is None or seen_copies <= most_copies)
            counts["reached"] += seen == most
            self.assertEqual((most is None, most_copies is None),
                             (growth(pipeline) is not None, growth(pipeline, digits=True) is not None))
        self.assertGreater(counts["reached"], 50)

    def test_each_number_up_to_10(self):
        pipelines = [*small_pipelines(range(40)), DOUBLING, FEEDING, MEETING, TURNS, CONSTANT, DROPPING, Pipeline(COPY, MORE)]
        for pipeline in pipelines:
            sure = Sure(pipeline)
            most, most_copies = spread(pipeline), copies(pipeline)
            for number in range(11):
                found = spreading(pipeline, number)
                self.assertEqual(found is None, most is not None and most < number)
                if found is not None:
                    self.assertTrue(pipeline.source.fits(found[0], pipeline.takes))
                    self.assertGreaterEqual(spread_of(sure, *found), number)
                found = copying(pipeline, number)
                if found is not None:
                    self.assertTrue(pipeline.source.fits(found[0], pipeline.takes))
                    self.assertTrue(found[0][found[1]].name.isdigit())
                    self.assertGreaterEqual(origins_of(pipeline, found[0])[found[1]], number)
                elif number > 0:
                    self.assertTrue(most_copies is not None and most_copies < number)
                else:
                    self.assertFalse([tree for tree in right_trees(pipeline.source, 7)[pipeline.takes] if "0" in tree.term])


class GrowthTest(unittest.TestCase, Raises):
    def check(self, pipeline, digits, most):
        grown = growth(pipeline, digits=digits)
        way, loop, part, path = grown
        source = pipeline.source
        self.assertTrue(source.fits(way, pipeline.takes, holes=True))
        self.assertEqual((len(way.holes()), len(loop.holes())), (1, 1))
        kind = source.maker(part.name).kind
        for context, name in ((way, pipeline.takes), (loop, kind)):
            self.assertTrue(source.fits(context.filled(part), name))
        self.assertIn(path, part)
        sure = Sure(pipeline)
        for many in range(1, most + 1):
            tree, place = put_into(grown, many)
            source.check(tree, pipeline.takes)
            if digits:
                self.assertGreaterEqual(origins_of(pipeline, tree)[place], many)
            else:
                self.assertGreaterEqual(spread_of(sure, tree, place), many)

    def test_what_grows(self):
        for pipeline, digits in ((DOUBLING, True), (FEEDING, True), (MEETING, True), (TURNS, True), (DROPPING, False)):
            self.check(pipeline, False, 4)
            self.assertEqual(growth(pipeline, digits=True) is not None, digits)
            if digits:
                self.check(pipeline, True, 4)
        self.check(FEEDING, False, 12)
        self.check(FEEDING, True, 12)

    def test_what_has_a_bound(self):
        for pipeline in (CONSTANT, Pipeline(TIDY), load_pipeline(LOADS_2000), load_pipeline(LOADS_2001), chain_pipeline(LEAVES)):
            self.assertIsNone(growth(pipeline))
            self.assertIsNone(growth(pipeline, digits=True))

    def test_none_exactly_where_there_is_no_greatest_number(self):
        for pipeline in (DOUBLING, FEEDING, MEETING, TURNS):
            self.assertEqual((spread(pipeline), copies(pipeline)), (None, None))
        self.assertEqual((spread(DROPPING), copies(DROPPING)), (None, 1))

    def test_samples(self):
        many = 0
        for pipeline in small_pipelines(range(100, 400)):
            if spread(pipeline) is None:
                self.check(pipeline, False, 2)
                many += 1
            if copies(pipeline) is None:
                self.check(pipeline, True, 2)
        self.assertGreater(many, 3)

    def test_beside_many_lots(self):
        # The loads are many before anything grows, so the loop is far away.
        deep = [f"S(x:{'S(' * at}Z{')' * at}) => Z" for at in (1, 2)]
        first = stage("first", ("a", "S(x) => P(a(x), b(x))", "D(d, x) => D(d, a(x))"), ("b", "S(x) => S(b(x))"), ("g", *deep))
        pipeline = Pipeline(first)
        self.check(pipeline, False, 4)
        way, loop, part, path = growth(pipeline)
        self.assertTrue(max(way.size, part.size) <= 2000 and max(way.levels, part.levels) <= 60)


class FakeFlow:
    """Steps between sites, made by a random source; words are named by their site and number."""

    def __init__(self, seed):
        rng = Random(seed)
        self.many = [rng.randint(1, 4) for _ in range(rng.randint(1, 3))]
        share = rng.choice([0.15, 0.25, 0.35])
        self.steps = {}
        for site in range(len(self.many)):
            self.steps[site] = []
            for _ in range(rng.randint(1, 3)):
                target = rng.randrange(len(self.many))
                rows = [[(at, 2 if rng.random() < 0.05 else 1) for at in range(self.many[site]) if rng.random() < share]
                        for _ in range(self.many[target])]
                self.steps[site].append(Letter(target, tuple(map(tuple, rows)), None, None, 0))

    def starts(self):
        return [(0, (1,) + (0,) * (self.many[0] - 1))]

    def letters(self, site):
        return self.steps[site]

    def live_words(self, site):
        return tuple(f"w{at}" for at in range(self.many[site]))

    def has_a_bound(self):
        """True if there are at most 3000 loads, none of them with a number of more than four digits."""
        found = dict.fromkeys(self.starts())
        waiting = list(found)
        while waiting:
            load = waiting.pop()
            for letter in self.steps[load[0]]:
                below = after_letter(load, letter)
                if below not in found:
                    found[below] = True
                    waiting.append(below)
                    if len(found) > 3000 or max(below[1]) > 9999:
                        return False
        return True


class FarTest(unittest.TestCase, Raises):
    """There are more than 2000 loads before a digit is met, so what grows shows where many copies are."""

    TABLE = Table.read("table far\nN: P N N = (12)\nN: S N = s1\nN: A N = a1\nN: B N = b1\nN: C N = c1\nN: D digit N = d12\nN: Z = z")

    def eating(self, name, first):
        """A stage that takes away three S, and then leaves everything."""
        again = ["A(x) => P(a(x), a(x))", "B(x) => P(a(x), P(a(x), a(x)))", "C(x) => P(P(a(x), a(x)), P(a(x), P(a(x), a(x))))"]
        keeps = [f"{maker}(x) => {maker}(d(x))" for maker in "SABC"]
        rows = [["P(x, y) => Z" if first else f"P(x, y) => P({state}(x), {state}(y))", f"S(x) => {after}(x)", "_ => Z"]
                for state, after in ("ab", "bc", "cd")]
        return Stage(name, self.TABLE, self.TABLE, ("a", "N", "N", (again if first else []) + rows[0]), ("b", "N", "N", rows[1]),
                     ("c", "N", "N", rows[2]), ("d", "N", "N", ["P(x, y) => P(d(x), d(y))", *keeps, "D(e, x) => D(e, Z)", "Z => Z"]))

    def test_copying(self):
        pipeline = Pipeline(*[self.eating(f"s{at}", at == 0) for at in range(4)])
        self.assertEqual((copies(pipeline), spread(pipeline)), (None, None))
        for number in range(9):
            tree, path = copying(pipeline, number)
            self.assertTrue(self.TABLE.fits(tree, "N"))
            self.assertGreaterEqual(len(path), 13 if number > 0 else 1)
            self.assertGreaterEqual(origins_of(pipeline, tree)[path], number)
        way, loop, part, path = growth(pipeline, digits=True)
        self.assertEqual((part[path].name, len(path)), ("0", 13))


class GrowingTest(unittest.TestCase):
    def test_against_all_loads(self):
        counts = Counter()
        for seed in range(1500):
            flow = FakeFlow(seed)
            growing = Growing(flow)
            found = growing.witness()
            self.assertEqual(found is None, flow.has_a_bound(), seed)
            counts[found is None] += 1
            if found is not None:
                self.check(flow, growing, found)
        self.assertGreater(min(counts.values()), 300)

    def check(self, flow, growing, found):
        state, letters, word = found
        site, first = growing.states[state]
        words = flow.live_words(site)
        load = (site, tuple(1 if name == first else 0 for name in words))
        for many in range(1, 8):
            for letter in letters:
                self.assertIn(letter, flow.letters(load[0]))
                load = after_letter(load, letter)
            self.assertEqual(load[0], site)
            self.assertGreaterEqual(load[1][words.index(word)], many)


class RefusalsTest(unittest.TestCase, Raises):
    CALLS = ((copies, ()), (spread, ()), (copying, (0,)), (copying, (3,)), (spreading, (0,)), (spreading, (3,)), (growth, ()))

    def test_2000_and_2001_loads(self):
        self.assertEqual((many_loads(LOADS_2000), many_loads(LOADS_2001)), (2000, 2001))
        fits, large = load_pipeline(LOADS_2000), load_pipeline(LOADS_2001)
        product = 1
        for row in LOADS_2000:
            product *= max(row)
        self.assertEqual((spread(fits), copies(fits), growth(fits)), (product, 0, None))
        tree, path = spreading(fits, 10)
        self.assertGreaterEqual(spread_of(Sure(fits), tree, path), 10)
        for call in (lambda: spread(large), lambda: spreading(large, 0), lambda: spreading(large, 10)):
            self.raises(LimitExceeded, call, limit="loads")
        # For the copies of digits, no word is live, so there are few loads.
        self.assertEqual((copies(large), copying(large, 0), growth(large), growth(large, digits=True)), (0, None, None, None))

    def test_more_than_2000_loads_without_a_greatest_number(self):
        first = load_stage("s", LOADS_2001[:3], True)
        self.assertIsNotNone(spread(Pipeline(first)))
        twice = Stage("twice", first.target, first.target, ("a", "N", "N", ["S(x) => P(a(x), a(x))", "A(x) => A(a(x))", "_ => Z"]))
        pipeline = Pipeline(twice, *[load_stage(f"s{at}", LOADS_2001[at:at + 3], True) for at in (0, 3, 6)])
        self.assertIsNone(spread(pipeline))
        self.assertIsNotNone(growth(pipeline))
        self.assertIsNotNone(spreading(pipeline, 10))

    def test_limits_in_their_order(self):
        lots = chain_pipeline(LEAVES, LEAVES, LEAVES)
        unfolded = Pipeline(*[growing_stage(f"s{at}", BIGGER) for at in range(4)])
        words = word_pipeline(*TWENTY_ONE)
        lines = line_pipeline("P(P(S(b(x)), S(b(x))), S(b(x)))")
        for pipeline, limit in ((lots, "lots"), (unfolded, "unfolded"), (words, "words"), (lines, "sure")):
            for call, more in self.CALLS:
                self.raises(LimitExceeded, call, pipeline, *more, limit=limit)

    def test_twenty_words(self):
        pipeline = word_pipeline(*TWENTY)
        self.assertEqual(len(Sure(pipeline).walk.words()), 20)
        self.assertIsNone(growth(pipeline))
        tree, path = spreading(pipeline, spread(pipeline))
        self.assertEqual(spread_of(Sure(pipeline), tree, path), spread(pipeline))
        tree, path = copying(pipeline, copies(pipeline))
        self.assertEqual(origins_of(pipeline, tree)[path], copies(pipeline))


if __name__ == "__main__":
    unittest.main()
