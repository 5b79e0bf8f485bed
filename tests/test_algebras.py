import unittest

from helpers import LANG, ODD, Raises, read, right_trees, terms
from treeworks.algebras import LotTable, combined
from treeworks.errors import BadCount, BadIndex, LimitExceeded, Unknown, WrongTree
from treeworks.rows import Row
from treeworks.sights import Sights
from treeworks.tables import Table
from treeworks.trees import Tree

GUARDS = ("Neg(Nil)", "Add(_, Neg(_))", "Num(_)", "Add(Nil, _)")


class SumRule:
    """A rule for tests: the sum of all digits and of the numbers of nodes, as far as a number counts."""

    def __init__(self, number):
        self.number = number

    def digit_mark(self, digit):
        return int(digit) % self.number

    def node_mark(self, maker, marks):
        return (1 + sum(marks)) % self.number


class TermRule:
    """A rule for tests: the parts of one tree have lots of their own, and all other trees of a kind the same one."""

    def __init__(self, tree):
        self.terms = [tree[path].term for path in tree.paths()]

    def digit_mark(self, digit):
        return ""

    def node_mark(self, maker, marks):
        term = Tree(maker.name, *[Tree(mark) for mark in marks]).term
        return term if term in self.terms else "other"


class SizeRule:
    """A rule for tests: the levels of a chain count, up to a number; digits do not matter."""

    def __init__(self, most):
        self.most = most

    def digit_mark(self, digit):
        return 0

    def node_mark(self, maker, marks):
        if not marks:
            return 1
        return min(max(marks) + 1, self.most) if len(set(marks)) == 1 else 0


def exact_tree(full, size):
    """A tree of this size over the full trees, with few different parts."""
    if size <= 2:
        return full[0] if size == 1 else Tree("S", full[0])
    for tree in reversed(full):
        if tree.size == size:
            return tree
        if tree.size + 2 <= size:
            return Tree("P", tree, exact_tree(full, size - 1 - tree.size))
    return None


def mark_of(rule, tree):
    if tree.name not in LANG:
        return rule.digit_mark(tree.name)
    return rule.node_mark(LANG.maker(tree.name), [mark_of(rule, part) for part in tree])


def sights(table, *guards):
    rows = [Row.read(f"X({guard}) => Y") for guard in guards]
    return Sights(table, rows)


class LotTableTest(unittest.TestCase, Raises):
    LOTS = LotTable(LANG, sights(LANG, *GUARDS))

    def test_numbers(self):
        self.assertEqual(self.LOTS.table, LANG)
        self.assertEqual([self.LOTS.many(kind) for kind in ("Expr", "digit")], [8, 1])
        least = [self.LOTS.least("Expr", lot) for lot in range(8)]
        self.assertEqual(terms(least), ["Nil", "Neg(Nil)", "Num(0)", "Add(Nil, Nil)", "Neg(Neg(Nil))", "Add(Neg(Nil), Nil)",
                                        "Add(Nil, Neg(Nil))", "Add(Neg(Nil), Neg(Nil))"])
        self.assertEqual(self.LOTS.least("digit", 0).term, "0")

    def test_lots_against_all_trees(self):
        for table, guards in ((LANG, GUARDS), (ODD, ("Swap(_, List(_, _))", "List(End, _)", "Both(_, Swap(_, Stop), _)", "One(_, _)"))):
            lots = LotTable(table, sights(table, *guards))
            looks = {part.term: part for guard in guards for part in map(read(guard).__getitem__, read(guard).paths())}
            for kind, trees in right_trees(table, 6, "03").items():
                marks = {}
                for tree in sorted(trees, key=lambda tree: (tree.size, tree.term)):
                    mark = tuple(look.covers(tree) for look in looks.values())
                    marks.setdefault(mark, tree)
                    lot = lots.lot(tree)
                    self.assertEqual(list(marks).index(mark), lot)
                    self.assertEqual(lots.least(kind, lot), marks[mark])

    def test_steps(self):
        for tree in right_trees(LANG, 6)["Expr"]:
            parts = [self.LOTS.lot(part) for part in tree]
            self.assertEqual(self.LOTS.step(tree.name, *parts), self.LOTS.lot(tree))
        self.assertEqual([self.LOTS.step(digit) for digit in "0123456789"], [0] * 10)

    def test_several_lots_of_digits(self):
        lots = LotTable(LANG, SumRule(3))
        self.assertEqual([lots.many(kind) for kind in ("Expr", "digit")], [3, 3])
        self.assertEqual([lots.step(digit) for digit in "0123456789"], [0, 1, 2, 0, 1, 2, 0, 1, 2, 0])
        self.assertEqual(terms([lots.least("digit", lot) for lot in range(3)]), ["0", "1", "2"])
        self.assertEqual(terms([lots.least("Expr", lot) for lot in range(3)]), ["Nil", "Neg(Nil)", "Num(2)"])
        self.assertEqual(lots.lot(read("Num(7)")), 1)
        self.assertEqual(lots.lot(read("8")), 2)

    def test_lines(self):
        self.assertEqual(LotTable(ODD, sights(ODD, "One(_, _)")).lines(), [
            "K          0  End", "L          0  Stop", "L          1  One(0, 0)", "digit      0  0"])
        table = Table.read("table t\nAbcdefgh: Z = z\nAbcdefgh: S Abcdefgh = s1")
        self.assertEqual(LotTable(table, sights(table, "S(S(_))")).lines(),
                         ["Abcdefgh   0  Z", "Abcdefgh   1  S(Z)", "Abcdefgh   2  S(S(Z))", "digit      0  0"])
        self.assertEqual(len(LotTable(LANG, SumRule(12)).lines()), 22)
        self.assertEqual(LotTable(LANG, SumRule(12)).lines()[11][:14], "Expr      11  ")
        self.LOTS.lines().clear()
        self.assertEqual(len(self.LOTS.lines()), 9)

    def test_wrong_arguments(self):
        for kind in ("K", "", "Add"):
            self.raises(Unknown, self.LOTS.many, kind, name=kind)
            for lot in (-99, -1, 0, 1, 99):
                self.raises(Unknown, self.LOTS.least, kind, lot, name=kind)
        for kind, lot in (("Expr", 8), ("Expr", -1), ("digit", 1), ("digit", -1)):
            self.raises(BadIndex, self.LOTS.least, kind, lot, index=lot)
        for name in ("Foo", "Expr", "", "digit", "_", "10"):
            self.raises(Unknown, self.LOTS.step, name, 99, name=name)
        for name, lots in (("Add", (99,)), ("Add", (0, 99, 99)), ("Nil", (99,)), ("0", (0,)), ("Num", ()), ("Add", ())):
            self.raises(BadCount, self.LOTS.step, name, *lots, count=len(lots))
        for name, lots, lot in (("Add", (0, 8), 8), ("Add", (-1, 9), -1), ("Num", (1,), 1), ("Add", (8, 9), 8), ("Neg", (-1,), -1)):
            self.raises(BadIndex, self.LOTS.step, name, *lots, index=lot)
        for term, path in (("Foo", ()), ("_", ()), ("Add(Nil)", ()), ("Add(Nil, _)", (1,)), ("Neg(Num(Nil))", (0, 0)), ("Expr", ())):
            self.raises(WrongTree, self.LOTS.lot, read(term), path=path)
        self.raises(WrongTree, self.LOTS.lot, Tree("1", Tree("Nil")), path=())

    def test_too_many_lots(self):
        self.assertEqual(LotTable(LANG, SumRule(30)).many("Expr"), 30)
        self.raises(LimitExceeded, LotTable, LANG, SumRule(31), limit="lots")
        self.assertEqual([LotTable(ODD, SumRule(15)).many(kind) for kind in ("K", "L", "digit")], [15, 15, 10])
        self.raises(LimitExceeded, LotTable, ODD, SumRule(16), limit="lots")

    def test_too_large_least_trees(self):
        table = Table.read("table t\nK: P K K = (12)\nK: Z = z")
        lots = LotTable(table, SizeRule(10))
        self.assertEqual(max(lots.least("K", lot).size for lot in range(lots.many("K"))), 1023)
        self.raises(LimitExceeded, LotTable, table, SizeRule(11), limit="lots")

    def test_least_trees_of_2000_names(self):
        table = Table.read("table t\nK: P K K = (12)\nK: S K = s1\nK: Z = z")
        full = [Tree("Z")]
        for _ in range(9):
            full.append(Tree("P", full[-1], full[-1]))
        tree = exact_tree(full, 2000)
        lots = LotTable(table, TermRule(tree))
        self.assertEqual(max(lots.least("K", lot).size for lot in range(lots.many("K"))), 2000)
        self.assertEqual(lots.least("K", lots.lot(tree)), tree)
        self.raises(LimitExceeded, LotTable, table, TermRule(Tree("S", tree)), limit="lots")

    def test_large_trees(self):
        tree = Tree("Nil")
        for _ in range(9):
            tree = Tree("Add", tree, Tree("Neg", tree))
        self.assertEqual(self.LOTS.lot(tree), 7)
        lots = LotTable(LANG, SumRule(29))
        least = lots.least("Expr", lots.lot(tree))
        self.assertEqual(mark_of(SumRule(29), least), tree.size % 29)

    def test_combined(self):
        self.assertEqual(combined([]), [()])
        self.assertEqual(combined([[1, 2], [3], [4, 5]]), [(1, 3, 4), (1, 3, 5), (2, 3, 4), (2, 3, 5)])
        self.assertEqual(combined([[1], []]), [])


if __name__ == "__main__":
    unittest.main()
