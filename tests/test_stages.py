import unittest

from helpers import LANG, ODD, Raises, read, right_trees
from treeworks.errors import (
    BadCount, BadLine, BadName, BadRow, BadState, LimitExceeded, Uncovered, Unknown, WrongTree,
)
from treeworks.rows import Row
from treeworks.stages import Stage, State
from treeworks.tables import Table
from treeworks.trees import Tree

TIDY = ["Neg(Nil) => Nil", "Neg(x) => Neg(t(x))", "Add(x, y) => Add(t(y), t(x))", "Num(d) => Num(d)", "Nil => Nil"]
ONE = ("a", "Expr", "Expr", ["_ => Nil"])
CUT = "stage cut: t -> t\nstate a: K -> K\nS(x:S(_)) => b(x)\nS(x) => S(a(x))\nZ => Z\nstate b: K -> K\nS(x) => S(a(x))\n_ => Z"
T = Table.read("table t\nK: S K = s1\nK: Z = z")
P = Table.read("table p\nK: S K = s1\nK: P K K = (12)\nK: D digit = d1\nK: Z = z")


def tidy():
    return Stage("tidy", LANG, LANG, ("t", "Expr", "Expr", TIDY))


class StateAndStageTest(unittest.TestCase, Raises):
    def test_attributes(self):
        stage = Stage("cut", LANG, ODD, ("a", "Expr", "K", ["Neg(x) => Swap(a(x), Stop)", "_ => End"]),
                      ("b", "Expr", "digit", ("Num(x) => x", "_ => 7")))
        self.assertEqual((stage.name, stage.source, stage.target, stage.start), ("cut", LANG, ODD, "a"))
        self.assertIsInstance(stage.states, tuple)
        self.assertEqual([(state.name, state.takes, state.gives) for state in stage.states],
                         [("a", "Expr", "K"), ("b", "Expr", "digit")])
        for state in stage.states:
            self.assertIsInstance(state, State)
            self.assertIsInstance(state.rows, tuple)
            self.assertTrue(all(isinstance(row, Row) for row in state.rows))
        self.assertEqual([row.written for row in stage.states[1].rows], ["Num(x) => x", "_ => 7"])
        self.assertEqual((Stage.MOST_STATES, Stage.MOST_ROWS), (4, 8))

    def test_rows_are_copied(self):
        rows = ["Nil => Nil", "_ => Neg(Nil)"]
        stage = Stage("s", LANG, LANG, ("a", "Expr", "Expr", rows))
        rows.clear()
        self.assertEqual(stage(read("Nil")).term, "Nil")
        self.assertEqual(len(stage.states[0].rows), 2)

    def test_named(self):
        stage = tidy()
        self.assertEqual(stage.named("t").name, "t")
        for name in ("u", "", "tidy", "T"):
            self.raises(Unknown, stage.named, name, name=name)


class ResultsTest(unittest.TestCase, Raises):
    def test_results(self):
        stage = tidy()
        for term, result in (
            ("Nil", "Nil"), ("Neg(Nil)", "Nil"), ("Neg(Neg(Nil))", "Neg(Nil)"), ("Num(4)", "Num(4)"),
            ("Add(Neg(Nil), Num(7))", "Add(Num(7), Nil)"), ("Add(Add(Nil, Num(1)), Num(2))", "Add(Num(2), Add(Num(1), Nil))"),
        ):
            self.assertEqual(stage(read(term)).term, result)
            self.assertEqual(stage.run("t", read(term)), read(result))

    def test_the_first_row_that_suits_counts(self):
        stage = Stage("s", LANG, LANG, ("a", "Expr", "Expr", [
            "Add(Nil, x) => a(x)", "Add(x, y:Neg(Nil)) => Num(1)", "Add(x, Neg(_)) => Num(2)", "Add(_, y) => Num(3)",
            "Neg(x) => Num(4)", "Neg(Nil) => Num(5)", "_ => Num(6)", "Nil => Num(7)",
        ]))
        for term, row, result in (
            ("Add(Nil, Neg(Nil))", 0, "Num(4)"), ("Add(Neg(Nil), Neg(Nil))", 1, "Num(1)"), ("Add(Num(0), Neg(Num(0)))", 2, "Num(2)"),
            ("Add(Num(0), Num(0))", 3, "Num(3)"), ("Neg(Nil)", 4, "Num(4)"), ("Nil", 6, "Num(6)"), ("Num(0)", 6, "Num(6)"),
        ):
            self.assertEqual(stage.choice("a", read(term)), row)
            self.assertEqual(stage(read(term)).term, result)

    def test_several_states_and_digits(self):
        stage = Stage("s", LANG, ODD,
                      ("a", "Expr", "K", ["Add(x, y) => Both(d(y), a(x), d(x))", "Num(d) => Swap(End, One(d, 5))", "_ => End"]),
                      ("d", "Expr", "digit", ["Num(n) => n", "Neg(x) => d(x)", "Add(x, y) => e(y)", "_ => 9"]),
                      ("e", "Expr", "digit", ["Num(_) => 1", "_ => 2"]))
        for term, result in (
            ("Add(Num(3), Neg(Num(4)))", "Both(4, Swap(End, One(3, 5)), 3)"), ("Add(Nil, Add(Nil, Num(0)))", "Both(1, End, 9)"),
            ("Add(Add(Nil, Nil), Nil)", "Both(9, Both(9, End, 9), 2)"),
        ):
            self.assertEqual(stage(read(term)).term, result)
        self.assertEqual(stage.run("d", read("Neg(Neg(Num(8)))")).term, "8")
        self.assertEqual(stage.run("e", read("Nil")).term, "2")
        self.assertEqual(stage.choice("d", read("Add(Nil, Nil)")), 2)

    def test_against_the_words_of_the_document(self):
        stage = Stage("s", P, P,
                      ("a", "K", "K", ["P(x:S(Z), y) => P(b(y), a(x))", "P(x, y:P(_, S(_))) => S(P(a(y), P(a(x), a(y))))",
                                       "P(x, _) => b(x)", "S(x) => S(a(x))", "D(n) => P(D(n), D(n))", "Z => D(4)"]),
                      ("b", "K", "K", ["P(x, y) => S(b(y))", "D(x) => D(3)", "D(_) => Z", "_ => Z"]))
        for tree in right_trees(P, 6)["K"]:
            for state in stage.states:
                self.assertEqual(stage.run(state.name, tree), slow_result(stage, state.name, tree))

    def test_wrong_arguments(self):
        stage = Stage("s", ODD, LANG, ("a", "K", "Expr", ["_ => Nil"]), ("b", "L", "digit", ["_ => 1"]))
        for call in (stage.run, stage.choice):
            for state in ("c", "", "A"):
                self.raises(Unknown, call, state, read("Foo"), name=state)
            self.raises(WrongTree, call, "a", read("Stop"), path=())
            self.raises(WrongTree, call, "b", read("End"), path=())
            self.raises(WrongTree, call, "a", read("Swap(End, _)"), path=(1,))
            self.raises(WrongTree, call, "a", read("3"), path=())
        self.raises(WrongTree, stage, read("Swap(Stop, Stop)"), path=(0,))

    def test_results_of_2000_names(self):
        # Each P has four copies of a chain in its result, so the sizes are known.
        stage = Stage("s", P, P,
                      ("a", "K", "K", ["S(x) => S(a(x))", "P(x, y) => P(P(c(x), c(x)), P(c(x), b(y)))", "D(d) => D(d)", "Z => Z"]),
                      ("b", "K", "K", ["S(x) => S(b(x))", "D(d) => D(d)", "_ => Z"]),
                      ("c", "K", "K", ["S(x) => P(S(c(x)), S(Z))", "P(x, y) => P(c(x), c(y))", "D(d) => D(d)", "Z => Z"]))
        # c gives 4 n + 1 names for n times S above Z, and n + 1 for n times P above Z.
        chain = "S(" * 20 + "Z" + ")" * 20
        self.assertEqual(stage.run("c", read(chain)).size, 81)
        wide = wide_tree(655)
        self.assertEqual(stage.run("c", wide).size, 655)
        # 3 copies of 655 names, 3 nodes and a rest of n + 1 names.
        for more, size in ((30, 1999), (31, 2000)):
            tree = Tree("P", wide, read("S(" * more + "Z" + ")" * more))
            self.assertEqual(stage(tree).size, size)
        tree = Tree("P", wide, read("S(" * 32 + "Z" + ")" * 32))
        self.raises(LimitExceeded, stage, tree, limit="result")
        self.raises(LimitExceeded, stage.run, "a", tree, limit="result")
        self.assertEqual(stage.choice("a", tree), 1)

    def test_results_of_60_levels(self):
        stage = Stage("s", T, T, ("a", "K", "K", ["S(x) => S(S(a(x)))", "Z => S(Z)"]), ("b", "K", "K", ["S(x) => S(S(b(x)))", "Z => Z"]))
        chain = read("S(" * 29 + "Z" + ")" * 29)
        self.assertEqual(stage(chain).levels, 60)
        self.assertEqual(stage.run("b", chain).levels, 59)
        longer = Tree("S", chain)
        self.raises(LimitExceeded, stage, longer, limit="result")
        self.raises(LimitExceeded, stage.run, "b", longer, limit="result")

    def test_digits_count_for_sizes_and_levels(self):
        stage = Stage("same", P, P, ("a", "K", "K", ["S(x) => S(a(x))", "P(x, y) => P(a(x), a(y))", "D(n) => D(n)", "Z => Z"]))
        more = Stage("more", P, P, ("a", "K", "K", ["S(x) => S(a(x))", "P(x, y) => P(a(x), a(y))", "D(n) => S(D(n))", "Z => Z"]))
        for tree in (read("S(" * 58 + "D(3)" + ")" * 58), Tree("P", wide_tree(1997), read("D(3)"))):
            self.assertEqual((tree.levels, tree.size) == (60, 60) or tree.size == 2000, True)
            self.assertEqual(stage(tree), tree)
            self.raises(LimitExceeded, more, tree, limit="result")

    def test_results_that_are_far_too_large(self):
        stage = Stage("s", P, P, ("a", "K", "K", ["S(x) => P(a(x), a(x))", "_ => Z"]))
        chain = read("S(" * 59 + "Z" + ")" * 59)
        self.raises(LimitExceeded, stage, chain, limit="result")

    def test_large_trees(self):
        stage = tidy()
        tree = Tree("Nil")
        for _ in range(9):
            tree = Tree("Add", tree, Tree("Neg", tree))
        self.assertEqual(tree.size, 1534)
        self.assertEqual(stage(tree), slow_result(stage, "t", tree))


def wide_tree(size):
    """A tree of this odd size over P and Z with few levels."""
    if size == 1:
        return Tree("Z")
    left = (size - 1) // 2
    left = left if left // 2 * 2 != left else left - 1
    return Tree("P", wide_tree(left), wide_tree(size - 1 - left))


def slow_result(stage, name, tree):
    """The result of a state, by the words of the document."""
    row = next(row for row in stage.named(name).rows if row.suits(tree))
    return slow_template(stage, row, row.template, tree)


def slow_template(stage, row, template, tree):
    if template.name in row.variables:
        return tree.parts[row.variables.index(template.name)]
    if template.name.islower():
        return slow_result(stage, template.name, tree.parts[row.variables.index(template.parts[0].name)])
    return Tree(template.name, *[slow_template(stage, row, part, tree) for part in template.parts])


class ChecksTest(unittest.TestCase, Raises):
    def bad_state(self, index, reason, *states):
        self.raises(BadState, Stage, "s", LANG, ODD, *states, index=index, reason=reason)

    def bad_row(self, state, row, reason, *states):
        self.raises(BadRow, Stage, "s", LANG, ODD, *states, state=state, row=row, reason=reason)

    def test_name(self):
        for name in ("", "S", "digit", "1s", "abcdefghi", "a b"):
            self.raises(BadName, Stage, name, LANG, LANG, name=name)
            self.raises(BadName, Stage, name, LANG, LANG, ONE, name=name)

    def test_number_of_states(self):
        self.raises(BadCount, Stage, "s", LANG, LANG, count=0)
        states = [(f"a{at}", "Expr", "Expr", ["_ => Nil"]) for at in range(6)]
        self.raises(BadCount, Stage, "s", LANG, LANG, *states[:5], count=5)
        self.raises(BadCount, Stage, "s", LANG, LANG, *([("", "", "", [])] * 6), count=6)
        self.assertEqual(len(Stage("s", LANG, LANG, *states[:4]).states), 4)

    def test_states(self):
        good = ("a", "Expr", "K", ["_ => End"])
        for name in ("", "A", "digit", "abcdefghi", "a.b"):
            self.bad_state(1, "name", good, (name, "X", "X", []))
        self.bad_state(2, "repeated", good, ("b", "Expr", "L", ["_ => Stop"]), ("a", "X", "X", []))
        for kind in ("K", "digit", "", "Add", "L"):
            self.bad_state(1, "takes", good, ("b", kind, "X", []))
        for kind in ("Expr", "Digit", "", "End"):
            self.bad_state(1, "gives", good, ("b", "Expr", kind, []))
        self.bad_state(0, "start", ("a", "Expr", "digit", []))
        for many in (0, 9):
            self.bad_state(0, "rows", ("a", "Expr", "K", ["bad"] * many))
        self.assertEqual(len(Stage("s", LANG, ODD, ("a", "Expr", "K", ["_ => End"] * 8)).states[0].rows), 8)
        # All states are checked before all rows.
        self.bad_state(1, "rows", ("a", "Expr", "K", ["bad"]), ("b", "Expr", "K", []))
        self.bad_state(0, "takes", ("a", "K", "digit", ["bad"]))
        self.bad_state(0, "gives", ("a", "Expr", "Expr", []))

    def test_row_text(self):
        for text in ("", "_ =>End", "_ => End ", "Neg(x) -> End", "Neg(x:_) => End", "_ => _"):
            self.bad_row("a", 1, "text", ("a", "Expr", "K", ["_ => End", text]))

    def test_row_head(self):
        for head in (
            "Foo", "End", "Expr", "Nil(x)", "Neg", "Neg(x, y)", "Add(x)", "Num", "Num(Nil)", "Num(x:Nil)", "Neg(End)", "Neg(x:Foo)",
            "Neg(Neg(Foo))", "Neg(Num(Nil))", "Neg(Add(_))", "Neg(Add(_, _, _))", "Neg(Num)", "Add(x, y:Neg(Num(Nil)))",
        ):
            self.bad_row("a", 0, "head", ("a", "Expr", "K", [f"{head} => q(q)", "_ => End"]))
        other = Table.read("table o\nK: A L = a1\nL: B L = b1\nL: C = c")
        for head in ("B(x)", "C", "A(A(_))", "A(x:A(C))"):
            states = ("a", "K", "K", [f"{head} => A(C)", "_ => A(C)"])
            self.raises(BadRow, Stage, "s", other, other, states, state="a", row=0, reason="head")
        Stage("s", other, other, ("a", "K", "K", ["A(B(_)) => A(C)", "A(x:C) => A(C)", "_ => A(C)"]))

    def test_row_variables(self):
        self.bad_row("a", 0, "variables", ("a", "Expr", "K", ["Add(x, x) => Foo", "_ => End"]))
        self.bad_row("a", 0, "variables", ("a", "Expr", "K", ["Add(x:Nil, x) => End", "_ => End"]))
        Stage("s", LANG, ODD, ("a", "Expr", "K", ["Add(_, _) => End", "Add(Nil, Nil) => End", "_ => End"]))

    def test_row_template(self):
        rest = [("b", "Expr", "L", ["_ => Stop"]), ("d", "Expr", "digit", ["Num(n) => n", "_ => 0"])]
        for row in (
            "_ => Foo", "_ => Nil", "_ => Stop", "_ => 7", "_ => End(End)", "_ => Swap(End)", "_ => Swap(Stop, Stop)",
            "_ => Swap(End, End)", "_ => Both(1, End, End)", "_ => Both(End, End, 1)", "_ => x", "_ => a(x)",
            "Neg(x) => x", "Neg(x) => a(y)", "Neg(x) => b(x)", "Neg(x) => d(x)", "Neg(x) => c(x)", "Neg(x) => Swap(b(x), Stop)",
            "Neg(x) => Swap(a(x), a(x))", "Neg(x) => Both(x, End, 1)", "Num(n) => n", "Num(n) => a(n)", "Num(n) => Both(d(n), End, 1)",
            "Num(n) => Swap(n, Stop)", "Neg(_) => a(x)", "Num(n) => Both(m, End, n)", "Neg(x) => Both(a(x), End, 1)",
            "_ => Swap(End, Stop, Stop)", "Neg(x) => Swap(d(x), Stop)", "_ => Both(1, 2, 3)", "Num(n) => Swap(End, One(n(n), n))",
        ):
            self.bad_row("a", 0, "template", ("a", "Expr", "K", [row, "_ => End"]), *rest)
        rows = ["Neg(x) => Swap(a(x), List(a(x), b(x)))", "Add(x, y) => Both(d(x), a(y), 3)", "Num(n) => Both(n, End, n)", "_ => End"]
        stage = Stage("s", LANG, ODD, ("a", "Expr", "K", rows), *rest)
        self.assertEqual(len(stage.states), 3)

    def test_templates_of_states_that_give_digits(self):
        good = ("a", "Expr", "K", ["_ => End"])
        for row in ("_ => End", "Neg(x) => x", "Neg(x) => a(x)", "_ => Num(1)", "Num(n) => d(n)", "_ => n"):
            self.bad_row("d", 0, "template", good, ("d", "Expr", "digit", [row, "_ => 1"]))
        Stage("s", LANG, ODD, good, ("d", "Expr", "digit", ["Num(n) => n", "Neg(x) => d(x)", "_ => 1"]))

    def test_the_kind_that_a_state_takes(self):
        table = Table.read("table t\nK: A L K = a12\nK: Z = z\nL: B = b")
        rows = {"k": "_ => Z", "l": "_ => Z"}
        for call, right in (("l(x)", True), ("k(x)", False), ("l(y)", False), ("k(y)", True)):
            states = [("s", "K", "K", [f"A(x, y) => {call}", "_ => Z"]), ("k", "K", "K", [rows["k"]]), ("l", "L", "K", [rows["l"]])]
            if right:
                Stage("s", table, table, *states)
            else:
                self.raises(BadRow, Stage, "s", table, table, *states, state="s", row=0, reason="template")

    def test_two_faults_at_once(self):
        good = "_ => End"
        self.bad_row("a", 0, "template", ("a", "Expr", "K", ["_ => Foo", "bad"]))
        self.bad_row("a", 1, "text", ("a", "Expr", "K", [good, "bad", "Foo => Foo"]), ("b", "Expr", "K", ["bad"]))
        self.bad_row("b", 0, "head", ("a", "Expr", "K", [good]), ("b", "Expr", "K", ["Add(x, x, x) => Foo"]))
        self.bad_row("a", 0, "variables", ("a", "Expr", "K", ["Add(x, x) => Foo"]))
        # Bad rows come before too many looks and before rows that are missing.
        self.bad_row("b", 0, "text", ("a", "Expr", "K", ["Nil => End"]), ("b", "Expr", "K", ["bad"]))


class UncoveredTest(unittest.TestCase, Raises):
    def uncovered(self, table, state, term, *states):
        error = self.assert_uncovered(table, states)
        self.assertEqual((error.state, error.tree.term), (state, term))
        self.assertIsInstance(error.tree, Tree)
        self.assertEqual(set(vars(error)), {"state", "tree"})

    def assert_uncovered(self, table, states):
        with self.assertRaises(Uncovered) as caught:
            Stage("s", table, table, *states)
        return caught.exception

    def test_gaps(self):
        for rows, term in (
            (["Nil => Nil"], "Neg(Nil)"), (["Neg(x) => Nil"], "Nil"), (["Nil => Nil", "Neg(x) => Nil"], "Num(0)"),
            (["Nil => Nil", "Neg(x) => Nil", "Num(n) => Nil"], "Add(Nil, Nil)"),
            (["Nil => Nil", "Neg(Neg(_)) => Nil", "Num(n) => Nil", "Add(x, y) => Nil"], "Neg(Nil)"),
            (["Nil => Nil", "Neg(Nil) => Nil", "Num(n) => Nil", "Add(x, y) => Nil"], "Neg(Neg(Nil))"),
            (["Nil => Nil", "Neg(x) => Nil", "Num(n) => Nil", "Add(Nil, _) => Nil", "Add(_, Nil) => Nil"], "Add(Neg(Nil), Neg(Nil))"),
            (["Nil => Nil", "Neg(x) => Nil", "Num(n) => Nil", "Add(Nil, _) => Nil", "Add(Neg(_), y) => Nil", "Add(Num(_), Nil) => Nil",
              "Add(Num(_), Num(_)) => Nil", "Add(Add(_, _), _) => Nil"], "Add(Num(0), Neg(Nil))"),
        ):
            self.uncovered(LANG, "a", term, ("a", "Expr", "Expr", rows))

    def test_the_first_state_counts(self):
        good = ("a", "Expr", "Expr", ["_ => Nil"])
        self.uncovered(LANG, "b", "Neg(Nil)", good, ("b", "Expr", "Expr", ["Nil => Nil"]), ("c", "Expr", "Expr", ["Neg(x) => Nil"]))
        self.uncovered(LANG, "c", "Nil", good, ("c", "Expr", "Expr", ["Neg(x) => Nil"]), ("b", "Expr", "Expr", ["Nil => Nil"]))

    def test_states_that_are_not_called_count(self):
        self.uncovered(LANG, "b", "Nil", ONE, ("b", "Expr", "digit", ["Num(n) => n"]))

    def test_kinds_within_other_kinds(self):
        table = Table.read("table t\nA: F B A = f12\nA: E = e\nB: G C = g1\nB: H B = h1\nC: I digit = i1\nC: J C = j1")
        self.uncovered(table, "a", "F(H(G(I(0))), E)", ("a", "A", "A", ["E => E", "F(G(_), x) => a(x)"]))
        self.uncovered(table, "a", "F(G(J(J(I(0)))), E)",
                       ("a", "A", "A", ["E => E", "F(H(_), x) => E", "F(G(I(_)), x) => E", "F(G(J(I(_))), _) => E"]))
        self.uncovered(table, "b", "J(J(I(0)))", ("a", "A", "A", ["_ => E"]), ("b", "C", "A", ["I(n) => E", "J(I(_)) => E", "J(J(J(_))) => E"]))

    def test_against_all_trees(self):
        trees = right_trees(P, 8, "0")["K"]
        guards = ["S(_)", "Z", "P(_, Z)", "S(S(_))", "P(S(_), _)", "D(_)", "P(Z, D(_))"]
        for first in guards:
            for second in guards:
                rows = ["Z => Z", "D(_) => Z", f"S({first}) => Z", f"P({first}, {second}) => Z", "P(Z, _) => Z", f"S(x:{second}) => Z"]
                error = self.assert_uncovered(P, [("a", "K", "K", rows)])
                read_rows = [Row.read(row) for row in rows]
                least = None
                for tree in trees:
                    if not any(row.suits(tree) for row in read_rows) and (least is None or tree < least):
                        least = tree
                self.assertEqual(error.tree, least)

    def test_nothing_is_missing(self):
        rows = ["S(S(_)) => Z", "S(Z) => Z", "S(P(_, Z)) => Z", "S(P(_, S(_))) => Z", "S(P(_, P(_, _))) => Z", "S(P(_, D(_))) => Z", "S(D(n)) => Z"]
        with self.assertRaises(BadRow):
            Stage("s", P, P, ("a", "K", "K", [*rows[:-1], "S(D(n)) => Z", "_ => Z"]))
        rows[-1] = "S(D(_)) => Z"
        self.uncovered(P, "a", "Z", ("a", "K", "K", rows))
        table = Table.read("table p\nK: S L = s1\nL: P L L = (12)\nL: D digit = d1\nL: Z = z")
        rows = ["S(Z) => S(Z)", "S(P(_, Z)) => S(Z)", "S(P(_, P(_, _))) => S(Z)", "S(P(Z, D(_))) => S(Z)", "S(P(P(_, _), _)) => S(Z)",
                "S(P(D(_), D(_))) => S(Z)", "S(D(_)) => S(Z)"]
        Stage("s", table, table, ("a", "K", "K", rows))
        for at in range(len(rows)):
            if rows[at] != "S(P(_, P(_, _))) => S(Z)":
                self.assert_uncovered(table, [("a", "K", "K", rows[:at] + rows[at + 1:])])


class LotsTest(unittest.TestCase, Raises):
    def chain_rows(self, *depths):
        return ["S(" * depth + "Z" + ")" * depth + " => Z" for depth in depths]

    def test_30_and_31_combinations(self):
        # Guards N1 to N7 below one node tell 8 makers of L apart, so the pairs of them tell combinations of K apart.
        table = Table.read("table t\nK: P L L = (12)\nK: Q L = q1\nL: A = a\nL: B = b\nL: C = c\nL: D digit = d1\nL: E = e\nM: F K = f1")
        pairs = [f"P({first}, {second})" for first in "ABCE" for second in "ABCE"]
        pairs += [f"P({first}, D(_))" for first in "ABCE"] + [f"P(D(_), {first})" for first in "ABCE"] + ["Q(A)", "Q(B)", "Q(C)", "Q(E)"]
        # 5 of L (each maker is a look), 1 of M, those of K: each pair that is a look, and one more for all others.
        for many, right in ((22, True), (23, True), (24, False), (28, False)):
            looks = pairs[:many]
            states = []
            for at in range(4):
                rows = [f"F({look}) => A" for look in looks[at * 7:at * 7 + 7]] + ["_ => A"]
                states.append((f"s{at}", "M", "L", rows))
            if right:
                Stage("s", table, table, *states)
            else:
                self.raises(LimitExceeded, Stage, "s", table, table, *states, limit="lots")

    def test_too_many_looks_come_before_missing_rows(self):
        table = Table.read("table t\nK: P K K = (12)\nK: A = a\nK: B = b\nK: C = c\nK: D = d")
        rows = [f"P(P({pair}), P({other})) => A" for pair, other in (
            ("A, B", "B, A"), ("A, C", "C, A"), ("A, D", "D, A"), ("B, C", "C, B"), ("B, D", "D, B"), ("C, D", "D, C"), ("A, A", "B, B"))]
        more = [f"P(P({pair}), P({other})) => A" for pair, other in (
            ("P(A, _), A", "P(B, _), A"), ("P(C, _), A", "P(D, _), A"), ("P(_, A), A", "P(_, B), A"), ("P(_, C), A", "P(_, D), A"),
            ("C, C", "D, D"))]
        self.raises(LimitExceeded, Stage, "s", table, table, ("a", "K", "K", rows), ("b", "K", "K", more), limit="lots")

    def test_many_combinations_of_few_looks(self):
        # 2 combinations for each of 4 independent questions about parts: the makers, and P with and without each.
        table = Table.read("table t\nK: P K K = (12)\nK: S K = s1\nK: Z = z")
        rows = ["P(P(S(_), _), _) => Z", "P(P(_, S(_)), _) => Z", "P(P(P(_, _), _), _) => Z", "P(P(_, P(_, _)), _) => Z",
                "P(S(S(_)), S(S(Z))) => Z", "P(S(P(_, _)), _) => Z", "_ => Z"]
        Stage("s", table, table, ("a", "K", "K", rows))


class DescriptionTest(unittest.TestCase, Raises):
    def test_reading_back(self):
        stage = Stage.read(CUT, T)
        self.assertEqual(stage.description, CUT)
        self.assertEqual((stage.name, stage.start, len(stage.states)), ("cut", "a", 2))
        self.assertEqual(stage(read("S(S(S(Z)))")).term, "S(S(Z))")
        stage = Stage("s", LANG, ODD, ("a", "Expr", "K", ["Num(n) => Both(n, End, 1)", "_ => End"]),
                      ("d", "Expr", "digit", ["_ => 7"]))
        self.assertEqual(stage.description, "stage s: lang -> odd\nstate a: Expr -> K\nNum(n) => Both(n, End, 1)\n_ => End\n"
                                            "state d: Expr -> digit\n_ => 7")
        again = Stage.read(stage.description, ODD, LANG)
        self.assertEqual(again.description, stage.description)
        self.assertEqual((again.source, again.target), (LANG, ODD))

    def test_lines_without_their_shape(self):
        for description, line in (
            ("", 1), ("stage", 1), ("stage s", 1), ("stage s: t", 1), ("stage s: t ->", 1), ("stage s: t -> ", 1), ("stage s: t t", 1),
            ("stage s t -> t", 1), ("stage s : t -> t", 1), ("stage s:  t -> t", 1), ("stage s: t -> t ", 1), (" stage s: t -> t", 1),
            ("stage s: t => t", 1), ("stage s: t -> t t", 1), ("Stage s: t -> t", 1), ("state a: K -> K", 1), ("stages: t -> t", 1),
            ("stage s: t -> t\n", 2), ("stage s: t -> t\n_ => Z", 2), ("stage s: t -> t\nstate a", 2), ("stage s: t -> t\nstate a: K K", 2),
            ("stage s: t -> t\nstate  a: K -> K", 2), ("stage s: t -> t\nstate a K -> K", 2), ("stage s: t -> t\nstate a: K -> K ", 2),
            ("stage s: t -> t\nstate a: K -> K\nZ", 3), ("stage s: t -> t\nstate a: K -> K\n", 3), (CUT + "\n", 9),
            ("stage s: t -> t\nstate a: K -> K\n_ => Z\nstate b: K => K", 4), ("stage s: t -> t\nstate a: K -> K\n_ =>Z", 3),
            ("stage s: t -> t\nstate a: K -> K\nstate b => K", 3), ("stage s: x -> y\nstate a: K -> K\nbad\nworse", 3),
            ("stage s: t -> t\nstate", 2), ("stage s: t -> t\nstage a: K -> K", 2),
        ):
            self.raises(BadLine, Stage.read, description, T, line=line)

    def test_unknown_tables(self):
        for head, name in (("x -> y", "x"), ("t -> y", "y"), ("x -> t", "x"), ("lang -> t", "lang")):
            self.raises(Unknown, Stage.read, f"stage S: {head}", T, name=name)
        self.raises(Unknown, Stage.read, CUT, name="t")

    def test_of_tables_with_the_same_name_the_first_one_counts(self):
        other = Table.read("table t\nK: Q = q")
        self.assertEqual(Stage.read(CUT, T, other).source, T)
        self.raises(BadRow, Stage.read, CUT, other, T, state="a", row=0, reason="head")

    def test_errors_of_the_stage(self):
        self.raises(BadCount, Stage.read, "stage s: t -> t", T, count=0)
        self.raises(BadName, Stage.read, "stage S: t -> t", T, name="S")
        self.raises(BadName, Stage.read, "stage :: t -> t", T, name=":")
        self.raises(BadState, Stage.read, "stage s: t -> t\nstate a: K -> K", T, index=0, reason="rows")
        self.raises(BadState, Stage.read, "stage s: t -> t\nstate a: K -> K\n_ => Z\nstate a: K -> K\n_ => Z", T, index=1, reason="repeated")
        self.raises(BadRow, Stage.read, "stage s: t -> t\nstate a: K -> K\n_ => Z => Z", T, state="a", row=0, reason="text")
        self.raises(BadRow, Stage.read, "stage s: t -> t\nstate a: K -> K\nZ => Z\n => ", T, state="a", row=1, reason="text")
        with self.assertRaises(Uncovered):
            Stage.read("stage s: t -> t\nstate a: K -> K\nZ => Z", T)


if __name__ == "__main__":
    unittest.main()
