import unittest
from itertools import product

from bounds import CHAIN, LEAVES, balance_pipeline, chain_pipeline, chain_stage
from helpers import LANG, ODD, Raises, read, right_trees, terms
from samples import random_pipeline
from treeworks.errors import BadCount, BadIndex, LimitExceeded, Mismatch, Unknown, WrongTree
from treeworks.lots import looks, lots_of, parting_look
from treeworks.pipelines import Pipeline
from treeworks.stages import Stage
from treeworks.tables import Table
from treeworks.trees import Tree

TIDY = Stage("tidy", LANG, LANG, ("t", "Expr", "Expr", [
    "Neg(Nil) => Nil", "Neg(x) => Neg(t(x))", "Add(x, y) => Add(t(y), t(x))", "Num(d) => Num(d)", "Nil => Nil",
]))
# Two kinds in one table, and states that give digits.
MIXED = Stage(
    "mixed", ODD, ODD,
    ("k", "K", "K", ["Swap(x, y:List(_, Stop)) => k(x)", "Swap(x:Both(_, End, _), y) => End", "Swap(x, y) => Swap(k(x), l(y))",
                     "Both(d, x, e) => Both(g(x), k(x), d)", "End => End"]),
    ("l", "L", "L", ["List(x, y) => List(k(x), l(y))", "Stop => Stop", "One(d, e) => One(e, d)"]),
    ("g", "K", "digit", ["Both(d, x, e) => e", "_ => 4"]),
)
DOUBLING = Stage("doubling", CHAIN, CHAIN, ("a", "N", "N", ["S(x) => S(S(a(x)))", *[f"{leaf} => {leaf}" for leaf in LEAVES]]))


def chain(many, leaf="A"):
    tree = Tree(leaf)
    for _ in range(many):
        tree = Tree("S", tree)
    return tree


def slow_mark(pipeline, tree, most=3):
    """What the lot of a tree means, from the results themselves."""
    stages = pipeline.stages
    kind = stages[0].source.maker(tree.name).kind
    seen = [look.term for look in looks(stages[0], kind) if look.covers(tree)]
    if len(stages) == 1:
        return seen
    rest = Pipeline(*stages[1:])
    return [seen] + [
        slow_mark(rest, stages[0].run(state.name, tree)) for state in stages[0].states
        if state.takes == kind and state.gives != "digit"
    ]


class LooksTest(unittest.TestCase, Raises):
    def test_guards_and_the_trees_in_them(self):
        self.assertEqual(terms(looks(TIDY, "Expr")), ["Nil"])
        self.assertEqual(terms(looks(MIXED, "K")), ["End", "Both(_, End, _)"])
        self.assertEqual(terms(looks(MIXED, "L")), ["Stop", "List(_, Stop)"])

    def test_each_once_in_ascending_order_without_holes(self):
        stage = Stage("s", LANG, LANG, ("t", "Expr", "Expr", [
            "Neg(x:Add(Neg(_), Nil)) => Nil", "Neg(Neg(_)) => Nil", "Add(x:Neg(_), Neg(Nil)) => Nil", "_ => Nil",
        ]))
        self.assertEqual(terms(looks(stage, "Expr")), ["Nil", "Neg(Nil)", "Neg(_)", "Add(Neg(_), Nil)"])

    def test_a_kind_without_looks(self):
        stage = Stage("s", ODD, ODD, ("k", "K", "K", ["Swap(End, y) => End", "_ => End"]))
        self.assertEqual(looks(stage, "L"), ())
        self.assertEqual(terms(looks(stage, "K")), ["End"])

    def test_all_states_count(self):
        stage = Stage("s", LANG, LANG, ("t", "Expr", "Expr", ["_ => Nil"]), ("u", "Expr", "digit", ["Neg(Nil) => 1", "_ => 2"]))
        self.assertEqual(terms(looks(stage, "Expr")), ["Nil"])

    def test_it_is_a_tuple(self):
        self.assertIsInstance(looks(TIDY, "Expr"), tuple)

    def test_unknown_kinds(self):
        self.raises(Unknown, looks, TIDY, "Nil", name="Nil")
        self.raises(Unknown, looks, TIDY, "digit", name="digit")


class LotsTest(unittest.TestCase, Raises):
    def test_one_stage(self):
        self.assertEqual(lots_of(Pipeline(TIDY)).lines(), [
            "Expr       0  Nil", "Expr       1  Neg(Nil)", "digit      0  0",
        ])

    def test_up_to_four_stages(self):
        lines = ["Nil", "Neg(Nil)", "Num(0)", "Neg(Neg(Nil))", "Neg(Neg(Neg(Nil)))"]
        for many in range(1, 5):
            lots = lots_of(Pipeline(TIDY) * many)
            found = [lots.least("Expr", lot) for lot in range(lots.many("Expr"))]
            self.assertEqual(sorted(terms(found)), sorted(set(terms(found))))
            self.assertTrue(all(first < second for first, second in zip(found, found[1:])))
            self.assertEqual(len(found), [2, 3, 4, 5][many - 1])
            self.assertTrue(set(terms(found)) <= set(lines))

    def test_against_what_lots_mean(self):
        for seed in range(40):
            pipeline = random_pipeline(seed)
            try:
                lots = lots_of(pipeline)
            except LimitExceeded:
                continue
            trees = right_trees(pipeline.source, 5)
            for kind in pipeline.source.kinds:
                marks = {}
                for tree in trees[kind][:60]:
                    mark = str(slow_mark(pipeline, tree))
                    self.assertEqual(marks.setdefault(lots.lot(tree), mark), mark)
                self.assertEqual(len(set(marks.values())), len(marks))
                for lot in marks:
                    least = min(tree for tree in trees[kind] if lots.lot(tree) == lot)
                    self.assertEqual(lots.least(kind, lot).term, least.term)

    def test_steps_lead_to_lots(self):
        lots = lots_of(Pipeline(MIXED, MIXED))
        trees = right_trees(ODD, 4)
        for maker in ODD:
            for parts in product(*[trees[want][:6] for want in maker.wants]):
                tree = Tree(maker.name, *parts)
                self.assertEqual(lots.step(maker.name, *[lots.lot(part) for part in parts]), lots.lot(tree))
        self.assertEqual([lots.step(digit) for digit in "0123456789"], [0] * 10)

    def test_errors_of_step_and_lot(self):
        lots = lots_of(Pipeline(TIDY))
        self.raises(Unknown, lots.step, "Sub", 0, 5, name="Sub")
        self.raises(Unknown, lots.step, "Expr", name="Expr")
        self.raises(BadCount, lots.step, "Add", 7, count=1)
        self.raises(BadCount, lots.step, "3", 0, count=1)
        self.raises(BadIndex, lots.step, "Add", 0, 2, index=2)
        self.raises(BadIndex, lots.step, "Add", -1, 2, index=-1)
        self.raises(BadIndex, lots.step, "Num", 1, index=1)
        self.raises(WrongTree, lots.lot, read("Add(Nil, Num(Nil))"), path=(1, 0))
        self.raises(WrongTree, lots.lot, read("_"), path=())
        self.raises(WrongTree, lots.lot, read("Neg(_)"), path=(0,))
        self.raises(BadIndex, lots.least, "Expr", 2, index=2)
        self.raises(Unknown, lots.many, "Nil", name="Nil")
        self.assertEqual([lots.lot(read("7")), lots.many("digit"), lots.least("digit", 0).term], [0, 1, "0"])

    def test_a_digit_line_without_digits(self):
        self.assertEqual(lots_of(chain_pipeline([])).lines()[-1], "digit      0  0")

    def test_thirty_lots_and_one_more(self):
        self.assertEqual(lots_of(chain_pipeline(LEAVES, LEAVES, LEAVES[:5])).many("N"), 30)
        self.raises(LimitExceeded, lots_of, chain_pipeline(LEAVES, LEAVES, LEAVES), limit="lots")

    def test_digits_are_not_counted(self):
        table = Table("full", ("N", "S", ("N", "digit"), "s12"), *[("N", leaf, (), leaf.lower()) for leaf in LEAVES])
        rows = [*[f"S(x:S(S({leaf}, _), _), d) => A" for leaf in LEAVES], "_ => A"]
        copy = ["S(x, d) => a(x)", *[f"{leaf} => {leaf}" for leaf in LEAVES]]
        drop = ["S(x, d) => S(b(x), d)", *[f"{leaf} => {leaf}" for leaf in LEAVES]]
        stages = [
            Stage(f"s{at}", table, table, ("a", "N", "N", ["S(x, d) => b(x)", *copy[1:]]), ("b", "N", "N", drop),
                  ("c", "N", "N", rows[:many] + rows[-1:]))
            for at, many in enumerate((6, 6, 5))
        ]
        lots = lots_of(Pipeline(*stages))
        self.assertEqual([lots.many("N"), lots.many("digit")], [30, 1])

    def test_the_last_stages_alone(self):
        small = Table.read("table small\nM: U M = u1\nM: V = v")
        first = Stage("first", small, CHAIN, ("a", "M", "N", ["_ => A"]))
        last = chain_pipeline(LEAVES, LEAVES, LEAVES)
        self.raises(LimitExceeded, lots_of, Pipeline(first) + last, limit="lots")
        self.assertEqual(lots_of(Pipeline(first) + chain_pipeline(LEAVES, LEAVES, LEAVES[:5])).many("M"), 1)

    def test_least_trees_of_more_than_2000_names(self):
        lots = lots_of(balance_pipeline("K O digit = k12\nO: D digit digit = 12"))
        self.assertEqual([lots.many("N"), lots.least("N", 12).size], [13, 1791])
        self.raises(LimitExceeded, lots_of, balance_pipeline("K O digit digit = k123\nO: D digit digit = 12"), limit="lots")

    def test_later_states_count_too(self):
        # The start drops everything, but another state shows the difference to the next stage.
        first = Stage("first", LANG, LANG, ("s", "Expr", "Expr", ["_ => Nil"]),
                      ("t", "Expr", "Expr", ["Neg(x) => Neg(t(x))", "_ => Nil"]))
        second = Stage("second", LANG, LANG, ("t", "Expr", "Expr", ["Add(x:Neg(_), y) => Nil", "_ => Nil"]))
        self.assertEqual(lots_of(Pipeline(first, second)).many("Expr"), 2)

    def test_states_that_give_digits_do_not_count(self):
        first = Stage("first", LANG, LANG, ("s", "Expr", "Expr", ["_ => Nil"]), ("t", "Expr", "digit", ["Num(d) => d", "_ => 1"]))
        self.assertEqual(lots_of(Pipeline(first, TIDY)).many("Expr"), 1)


class PartingTest(unittest.TestCase, Raises):
    def test_none_exactly_for_the_same_lot(self):
        for pipeline, table in [(Pipeline(TIDY) * 3, LANG), (Pipeline(MIXED, MIXED), ODD)]:
            lots = lots_of(pipeline)
            trees = right_trees(table, 5)
            for kind in table.kinds:
                for first, second in product(trees[kind][:25], repeat=2):
                    same = lots.lot(first) == lots.lot(second)
                    self.assertEqual(parting_look(pipeline, first, second) is None, same)

    def test_it_shows_what_it_says(self):
        for seed in range(30):
            pipeline = random_pipeline(seed)
            trees = right_trees(pipeline.source, 5)[pipeline.takes][:12]
            for first, second in product(trees, repeat=2):
                found = parting_look(pipeline, first, second)
                if found is not None:
                    word, look = found
                    results, names = [first, second], word.split(".") if word else []
                    for at, name in enumerate(names):
                        results = [pipeline.stages[at].run(name, tree) for tree in results]
                    self.assertNotEqual(look.covers(results[0]), look.covers(results[1]))
                    kind = pipeline.stages[len(names)].source.maker(look.name).kind
                    self.assertIn(look.term, terms(looks(pipeline.stages[len(names)], kind)))

    def test_the_first_stage_comes_first(self):
        found = parting_look(Pipeline(TIDY) * 2, read("Nil"), read("Neg(Nil)"))
        self.assertEqual((found[0], found[1].term), ("", "Nil"))

    def test_behind_the_first_stages(self):
        for many in range(2, 5):
            found = parting_look(Pipeline(TIDY) * many, chain_of_neg(many - 1), chain_of_neg(many))
            self.assertEqual((found[0], found[1].term), (".".join(["t"] * (many - 1)), "Nil"))

    def test_depth_first(self):
        stage = Stage("s", LANG, LANG,
                      ("t", "Expr", "Expr", ["Neg(x) => Neg(t(x))", "Add(x, y) => Add(t(x), t(y))", "Num(d) => Num(d)", "_ => Nil"]),
                      ("u", "Expr", "Expr", ["_ => Nil"]))
        last = Stage("l", LANG, LANG, ("t", "Expr", "Expr", ["Neg(Neg(Neg(_))) => Nil", "_ => Nil"]))
        middle = Stage("m", LANG, LANG, ("p", "Expr", "Expr", ["_ => Nil"]), ("q", "Expr", "Expr", ["Neg(x) => q(x)", "_ => Neg(Neg(Nil))"]),
                       ("r", "Expr", "Expr", ["Neg(x) => Neg(Neg(r(x)))", "_ => Nil"]))
        found = parting_look(Pipeline(stage, middle, last), read("Neg(Nil)"), read("Nil"))
        self.assertEqual((found[0], found[1].term), ("t.r", "Neg(_)"))

    def test_ascending_looks_within_a_stage(self):
        stage = Stage("s", LANG, LANG, ("t", "Expr", "Expr", ["Neg(Neg(Neg(_))) => Nil", "Neg(Add(_, _)) => Nil", "_ => Nil"]))
        found = parting_look(Pipeline(stage), read("Neg(Neg(Nil))"), read("Add(Nil, Nil)"))
        self.assertEqual(found[1].term, "Neg(_)")

    def test_states_that_give_digits_are_left_out(self):
        first = Stage("f", LANG, LANG, ("s", "Expr", "Expr", ["_ => Nil"]), ("t", "Expr", "digit", ["Neg(x) => 1", "_ => 2"]))
        self.assertIsNone(parting_look(Pipeline(first, TIDY), read("Nil"), read("Neg(Nil)")))

    def test_results_on_the_way_that_are_too_large(self):
        doubled = Pipeline(DOUBLING, chain_stage("s", ["A"]))
        found = parting_look(doubled, chain(1), chain(29))
        self.assertEqual((found[0], found[1].term), ("a", "S(S(A))"))
        self.raises(LimitExceeded, parting_look, doubled, chain(1), chain(30), limit="result")
        self.raises(LimitExceeded, parting_look, doubled, chain(30), chain(1), limit="result")

    def test_the_same_lot_with_large_results(self):
        self.assertIsNone(parting_look(Pipeline(DOUBLING, chain_stage("s", ["A"])), chain(40), chain(45)))

    def test_no_limit_of_lots(self):
        found = parting_look(chain_pipeline(LEAVES, LEAVES, LEAVES), chain(4, "F"), chain(4, "E"))
        self.assertEqual((found[0], found[1].term), ("a.a", "S(S(E))"))

    def test_errors_in_their_order(self):
        pipeline = Pipeline(MIXED)
        self.raises(WrongTree, parting_look, pipeline, read("_"), read("Stop"), path=())
        self.raises(WrongTree, parting_look, pipeline, read("3"), read("Stop"), path=())
        self.raises(WrongTree, parting_look, pipeline, read("End"), read("List(End, _)"), path=(1,))
        self.raises(WrongTree, parting_look, pipeline, read("Nope"), read("List(End, _)"), path=())
        self.raises(WrongTree, parting_look, pipeline, read("List(_, End)"), read("End"), path=(0,))
        self.raises(Mismatch, parting_look, pipeline, read("End"), read("Stop"))


def chain_of_neg(many):
    tree = Tree("Nil")
    for _ in range(many):
        tree = Tree("Neg", tree)
    return tree


if __name__ == "__main__":
    unittest.main()
