import unittest

from helpers import LANG, ODD, Raises, read, right_trees
from treeworks.errors import BadIndex, LimitExceeded, Mismatch, NoPlace, WrongTree
from treeworks.groves import Grove
from treeworks.tables import Table
from treeworks.texts import sign_path, stretch, text_of
from treeworks.trees import Tree

FORK = Table.read("table t\nK: S K = s1\nK: P K K = (12)\nK: Z = z")


def entries_of(grove):
    return [grove.entry(number) for number in range(grove.entries)]


def doubled(grove, times):
    """The number of a tree with so many levels of `P` above `Z`, whose two parts are the same entry each."""
    number = grove.put(read("Z"))
    for _ in range(times):
        bottom = grove.put(read("P(Z, S(Z))"))
        number = grove.exchanged(grove.exchanged(bottom, (0,), number), (1,), number)
    return number


def chain(grove, times):
    """The number of a tree with so many levels of `S` above `Z`; the name stands above `Z` in the grove already."""
    number = grove.put(read("Z"))
    for _ in range(times):
        number = grove.exchanged(grove.put(read("S(Z)")), (0,), number)
    return number


class PutTest(unittest.TestCase, Raises):
    def test_a_new_grove_is_empty(self):
        grove = Grove(LANG)
        self.assertEqual((grove.table, grove.entries), (LANG, 0))

    def test_entries_in_the_order_in_which_nodes_are_left(self):
        grove = Grove(LANG)
        self.assertEqual(grove.put(read("Add(Neg(Num(7)), Add(Nil, Num(7)))")), 4)
        self.assertEqual(entries_of(grove), [("Num", ("7",)), ("Neg", (0,)), ("Nil", ()), ("Add", (2, 0)), ("Add", (1, 3))])
        self.assertEqual(grove.put(read("Add(Nil, Neg(Nil))")), 6)
        self.assertEqual(entries_of(grove)[5:], [("Neg", (2,)), ("Add", (2, 5))])

    def test_parts_of_several_kinds_and_digits(self):
        grove = Grove(ODD)
        self.assertEqual(grove.put(read("Both(3, Swap(End, One(4, 3)), 3)")), 3)
        self.assertEqual(entries_of(grove), [("End", ()), ("One", ("4", "3")), ("Swap", (0, 1)), ("Both", ("3", 2, "3"))])
        self.assertEqual([grove.kind_of(number) for number in range(4)], ["K", "L", "K", "K"])

    def test_equal_trees_have_one_entry(self):
        grove = Grove(LANG)
        numbers = {}
        for tree in right_trees(LANG, 6)["Expr"]:
            numbers.setdefault(tree.term, grove.put(tree))
            self.assertEqual(grove.put(tree), numbers[tree.term])
        self.assertEqual(len(set(numbers.values())), len(numbers))
        rows = entries_of(grove)
        self.assertEqual(len(rows), len(set(rows)))
        for number, (_, parts) in enumerate(rows):
            self.assertTrue(all(isinstance(part, str) or part < number for part in parts))

    def test_a_stored_part_adds_nothing(self):
        grove = Grove(LANG)
        top = grove.put(read("Add(Neg(Nil), Num(3))"))
        self.assertEqual([grove.put(read(term)) for term in ("Nil", "Neg(Nil)", "Num(3)")], [0, 1, 2])
        self.assertEqual((top, grove.entries), (3, 4))

    def test_wrong_trees_change_nothing(self):
        grove = Grove(LANG)
        for term, path in (("3", ()), ("_", ()), ("Foo", ()), ("Neg(_)", (0,)), ("Add(Num(1), Num(Nil))", (1, 0)),
                           ("Add(Nil)", ()), ("Neg(Add(Nil, Neg(3)))", (0, 1, 0))):
            self.raises(WrongTree, grove.put, read(term), path=path)
        self.assertEqual(grove.entries, 0)


class QuestionsTest(unittest.TestCase, Raises):
    def test_against_trees_and_texts(self):
        for table in (LANG, ODD):
            grove = Grove(table)
            for kind, trees in right_trees(table, 5).items():
                for tree in trees if kind != "digit" else []:
                    self.check(grove, tree)

    def check(self, grove, tree):
        number, text = grove.put(tree), text_of(grove.table, tree)
        self.assertEqual(grove.unfolded(number), tree)
        numbers = (grove.size_of(number), grove.levels_of(number), grove.length_of(number))
        self.assertEqual(numbers, (tree.size, tree.levels, len(text)))
        for at, sign in enumerate(text):
            self.assertEqual(grove.sign_at(number, at), sign)
            self.assertEqual(grove.path_at(number, at), sign_path(grove.table, tree, at))
            for stop in range(at, len(text) + 1):
                self.assertEqual(grove.window(number, at, stop), text[at:stop])
        for path in tree.paths():
            self.assertEqual(grove.stretch_of(number, path), stretch(grove.table, tree, path))
            if tree[path].name.isdigit():
                self.raises(NoPlace, grove.part_at, number, path, path=path)
            else:
                self.assertEqual(grove.unfolded(grove.part_at(number, path)), tree[path])

    def test_numbers_that_are_none_come_first(self):
        grove = Grove(LANG)
        grove.put(read("Neg(Nil)"))
        calls = (grove.entry, grove.kind_of, grove.size_of, grove.levels_of, grove.length_of, grove.unfolded)
        for number in (-1, 2, 99, -99):
            for call in calls:
                self.raises(BadIndex, call, number, index=number)
            self.raises(BadIndex, grove.sign_at, number, -5, index=number)
            self.raises(BadIndex, grove.path_at, number, -5, index=number)
            self.raises(BadIndex, grove.window, number, -5, -7, index=number)
            self.raises(BadIndex, grove.stretch_of, number, (9,), index=number)
            self.raises(BadIndex, grove.part_at, number, (9,), index=number)
            self.raises(BadIndex, grove.exchanged, number, (9,), 77, index=number)
            self.raises(BadIndex, grove.exchanged, 1, (9,), number, index=number)

    def test_indexes_and_windows(self):
        grove = Grove(LANG)
        number = grove.put(read("Add(Nil, Nil)"))
        for index in (-1, 5, 6, -5):
            self.raises(BadIndex, grove.sign_at, number, index, index=index)
            self.raises(BadIndex, grove.path_at, number, index, index=index)
        for start, stop, index in ((-1, 2, -1), (6, 9, 6), (6, 2, 6), (-1, -2, -1), (3, 2, 2), (3, 6, 6), (0, -1, -1), (2, 999, 999)):
            self.raises(BadIndex, grove.window, number, start, stop, index=index)
        self.assertEqual([grove.window(number, at, at) for at in range(6)], [""] * 6)
        self.assertEqual((grove.window(number, 5, 5), grove.window(number, 0, 5)), ("", "(z+z)"))

    def test_windows_of_400_characters(self):
        grove = Grove(FORK)
        number = doubled(grove, 12)
        length = grove.length_of(number)
        for start in (0, 1, length // 2, length - 401, length - 400):
            self.assertEqual(len(grove.window(number, start, start + 400)), 400)
        for start in (0, 7, length - 401):
            self.raises(LimitExceeded, grove.window, number, start, start + 401, limit="window")
        self.raises(LimitExceeded, grove.window, number, 0, length, limit="window")
        self.raises(BadIndex, grove.window, number, 0, length + 1, index=length + 1)

    def test_paths_that_lead_to_no_place(self):
        grove = Grove(LANG)
        number = grove.put(read("Add(Nil, Num(3))"))
        for path in ((2,), (-1,), (0, 0), (1, 0, 0), (1, 1), (5, 0)):
            self.raises(NoPlace, grove.stretch_of, number, path, path=path)
            self.raises(NoPlace, grove.part_at, number, path, path=path)
            self.raises(NoPlace, grove.exchanged, number, path, number, path=path)
        self.assertEqual(grove.stretch_of(number, (1, 0)), (3, 4))
        self.raises(NoPlace, grove.part_at, number, (1, 0), path=(1, 0))
        self.raises(NoPlace, grove.exchanged, number, (1, 0), number, path=(1, 0))

    def test_unfolded_at_its_bounds(self):
        grove = Grove(FORK)
        for times in (58, 59):
            self.assertEqual(grove.unfolded(chain(grove, times)).levels, times + 1)
        self.raises(LimitExceeded, grove.unfolded, chain(grove, 60), limit="result")
        parts = [Tree("Z") for _ in range(500)]
        while len(parts) > 1:
            pairs = [parts[at:at + 2] for at in range(0, len(parts), 2)]
            parts = [Tree("P", *pair) if len(pair) == 2 else pair[0] for pair in pairs]
        tree = parts[0]
        self.assertEqual(tree.size, 999)
        exact = grove.put(Tree("S", Tree("P", tree, tree)))
        self.assertEqual((grove.size_of(exact), grove.unfolded(exact).size), (2000, 2000))
        self.raises(LimitExceeded, grove.unfolded, grove.put(Tree("S", Tree("S", Tree("P", tree, tree)))), limit="result")


class LargeTest(unittest.TestCase, Raises):
    def test_many_levels(self):
        grove = Grove(FORK)
        number = chain(grove, 20000)
        self.assertEqual((grove.entries, grove.size_of(number), grove.levels_of(number), grove.length_of(number)),
                         (20001, 20001, 20001, 20001))
        self.assertEqual((grove.sign_at(number, 20000), grove.sign_at(number, 19999)), ("z", "s"))
        self.assertEqual(grove.path_at(number, 15000), (0,) * 15000)
        self.assertEqual(grove.path_at(number, 20000), (0,) * 20000)
        self.assertEqual(grove.stretch_of(number, (0,) * 12345), (12345, 20001))
        self.assertEqual(grove.part_at(number, (0,) * 20000), 0)
        self.raises(NoPlace, grove.part_at, number, (0,) * 20001, path=(0,) * 20001)
        self.assertEqual(grove.window(number, 19990, 20001), "s" * 10 + "z")
        self.raises(LimitExceeded, grove.unfolded, number, limit="result")

    def test_an_exchange_below_many_levels(self):
        grove = Grove(FORK)
        number = chain(grove, 5000)
        part = grove.put(read("P(Z, Z)"))
        before = grove.entries
        new = grove.exchanged(number, (0,) * 5000, part)
        self.assertEqual((grove.entries - before, grove.length_of(new)), (5000, 5004))
        self.assertEqual(grove.window(new, 4998, 5004), "ss(zz)")

    def test_sizes_of_hundreds_of_digits(self):
        grove = Grove(FORK)
        number = doubled(grove, 1500)
        length = 3 * 2 ** 1500 - 2
        self.assertEqual((grove.size_of(number), grove.levels_of(number), grove.length_of(number)), (2 ** 1501 - 1, 1501, length))
        self.assertGreater(len(str(length)), 400)
        self.assertEqual(grove.window(number, length // 2 - 3, length // 2 + 3), ")))(((")
        self.assertEqual(grove.window(number, length - 400, length), ")" * 400)
        path = (1, 0) * 750
        start, end = grove.stretch_of(number, path)
        self.assertEqual((end - start, grove.window(number, start, end)), (1, "z"))
        self.assertEqual((grove.sign_at(number, start), grove.path_at(number, start)), ("z", path))
        self.assertEqual(grove.path_at(number, 0), ())
        self.assertEqual(grove.path_at(number, length - 1), ())
        self.assertEqual(grove.path_at(number, 1499), (0,) * 1499)
        for index in (-1, length, length + 5):
            self.raises(BadIndex, grove.sign_at, number, index, index=index)

    def test_forms_in_another_order(self):
        grove = Grove(ODD)
        number = grove.put(read("Swap(End, One(1, 2))"))
        for _ in range(1000):
            number = grove.exchanged(grove.put(read("Swap(End, List(End, Stop))")), (1, 0), number)
        # <[END:REST,e> where the second part comes first
        start, end = grove.stretch_of(number, (1, 0))
        self.assertEqual((start, grove.window(number, 0, 6)), (2, "<[<[<["))
        self.assertEqual(grove.path_at(number, 2), (1, 0))
        self.assertEqual(end - start, grove.length_of(grove.part_at(number, (1, 0))))
        self.assertEqual(grove.stretch_of(number, (0,)), (grove.length_of(number) - 2, grove.length_of(number) - 1))
        self.assertEqual(grove.sign_at(number, grove.length_of(number) - 2), "e")


class ExchangedTest(unittest.TestCase, Raises):
    def test_against_trees(self):
        grove = Grove(LANG)
        parts = [grove.put(read(term)) for term in ("Nil", "Num(4)", "Neg(Nil)")]
        for tree in right_trees(LANG, 5)["Expr"]:
            number = grove.put(tree)
            for path in tree.paths():
                if not tree[path].name.isdigit():
                    for part in parts:
                        new = grove.exchanged(number, path, part)
                        self.assertEqual(grove.unfolded(new), tree.exchanged(path, grove.unfolded(part)))

    def test_new_entries(self):
        grove = Grove(LANG)
        number, part = grove.put(read("Add(Neg(Neg(Nil)), Num(1))")), grove.put(read("Num(2)"))
        before = grove.entries
        self.assertEqual(grove.exchanged(number, (0, 0, 0), part), before + 2)
        self.assertEqual(entries_of(grove)[before:], [("Neg", (part,)), ("Neg", (before,)), ("Add", (before + 1, 3))])
        self.assertEqual((grove.exchanged(number, (0, 0, 0), part), grove.entries), (before + 2, before + 3))
        self.assertEqual((grove.exchanged(number, (), part), grove.entries), (part, before + 3))
        # One frame is stored already.
        self.assertEqual(grove.exchanged(number, (0, 0), part), before + 3)
        self.assertEqual(grove.entry(before + 3), ("Add", (before, 3)))

    def test_kinds(self):
        grove = Grove(ODD)
        number, other = grove.put(read("Swap(End, One(1, 2))")), grove.put(read("Stop"))
        many = grove.entries
        for path in ((), (0,)):
            self.raises(Mismatch, grove.exchanged, number, path, other)
        self.raises(Mismatch, grove.exchanged, number, (1,), number)
        self.raises(NoPlace, grove.exchanged, number, (1, 1), number, path=(1, 1))
        self.assertEqual(grove.entries, many)
        self.assertEqual(grove.unfolded(grove.exchanged(number, (1,), other)), read("Swap(End, Stop)"))
        self.assertEqual(grove.unfolded(grove.exchanged(number, (0,), number)), read("Swap(Swap(End, One(1, 2)), One(1, 2))"))


if __name__ == "__main__":
    unittest.main()
