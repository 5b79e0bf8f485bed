import unittest

from helpers import LANG, ODD, Raises, read, right_trees
from treeworks.errors import BadCount, BadLine, BadName, BadTable, Unknown, WrongTree
from treeworks.tables import Maker, Table
from treeworks.trees import Tree

NIL = ("K", "Nil", (), "z")


def rows_of(many):
    return [("K", f"M{at}", (), "abcdefghijklmno"[at]) for at in range(many)]


class TableTest(unittest.TestCase, Raises):
    def bad(self, row, reason, *rows):
        self.raises(BadTable, Table, "t", *rows, row=row, reason=reason)

    def test_example(self):
        rows = [("Expr", "Add", ("Expr", "Expr"), "(1+2)"), ("Expr", "Mul", ("Expr", "Expr"), "(1*2)")]
        self.raises(BadTable, Table, "lang", *rows, row=1, reason="begins")

    def test_attributes(self):
        table = Table("t2", ("L", "Cons", ("K", "L"), "c12"),
                      ("K", "Nil", (), "z"), ("L", "End", (), "."))
        self.assertEqual((table.name, table.kinds), ("t2", ("L", "K")))
        self.assertEqual(table.description, "table t2\nL: Cons K L = c12\nK: Nil = z\nL: End = .")
        self.assertEqual((Table.MOST_ROWS, Table.MOST_KINDS), (10, 3))
        makers = [(maker.name, maker.kind, maker.form, maker.wants) for maker in table]
        self.assertEqual(makers, [("Cons", "L", "c12", ("K", "L")), ("Nil", "K", "z", ()), ("End", "L", ".", ())])
        self.assertIsInstance(table.maker("Nil"), Maker)

    def test_arguments_are_copied(self):
        wants = ["K"]
        table = Table("t", ("K", "S", wants, "s1"), NIL)
        wants.append("K")
        self.assertEqual(table.maker("S").wants, ("K",))

    def test_name(self):
        for name in ("", "T", "1a", "digit", "abcdefghi", "a_b", "a b", "aB", "a-"):
            self.raises(BadName, Table, name, name=name)
            self.raises(BadName, Table, name, NIL, name=name)
        for name in ("t", "abcdefg8", "digits", "d1"):
            self.assertEqual(Table(name, NIL).name, name)

    def test_number_of_rows(self):
        self.raises(BadCount, Table, "t", count=0)
        self.raises(BadCount, Table, "t", *rows_of(11), count=11)
        self.raises(BadCount, Table, "t", *([("k", "", (), "")] * 12), count=12)
        self.assertEqual(len(list(Table("t", *rows_of(10)))), 10)
        self.assertEqual(len(list(Table("t", *rows_of(1)))), 1)

    def test_pass_1_name(self):
        for kind, maker, wants in (
            ("k", "A", ()), ("K", "a", ()), ("", "A", ()), ("K", "", ()), ("digit", "A", ()), ("K", "digit", ()),
            ("Abcdefghi", "A", ()), ("K", "Abcdefghi", ()), ("K", "A_", ()), ("K", "A", ("k",)), ("K", "A", ("",)),
            ("K", "A", ("Digit_",)), ("K", "1", ()), ("K", "_", ()),
        ):
            self.bad(0, "name", (kind, maker, wants, "a" + "123"[:len(wants)]))
        Table("t", ("Abcdefg8", "Bbcdefg9", (), "a"))

    def test_pass_1_kinds(self):
        three = [("A", "A", (), "a"), ("B", "B", (), "b"), ("C", "C", (), "c")]
        self.bad(3, "kinds", *three, ("D", "D", (), "d"))
        self.assertEqual(Table("t", *three, ("A", "D", (), "d")).kinds, ("A", "B", "C"))
        self.bad(3, "kinds", *three, ("D", "A", (), "d"))
        # Only rows before it count, so a want of a fourth kind is no fault of this pass.
        self.bad(1, "kind", three[0], ("B", "X", ("D",), "x1"), three[2])

    def test_pass_1_repeated(self):
        self.bad(1, "repeated", ("K", "A", (), "a"), ("K", "A", (), "b"))
        self.bad(2, "repeated", ("K", "A", (), "a"), ("L", "B", (), "b"), ("L", "A", (), "c"))
        self.assertEqual(Table("t", ("A", "A", (), "a")).kinds, ("A",))
        self.assertEqual(Table("t", ("A", "B", (), "a"), ("B", "A", (), "a")).kinds, ("A", "B"))

    def test_pass_1_parts(self):
        for wants in (("K", "K", "K"), ("digit", "digit", "digit", "digit"), ("K", "K", "digit", "digit")):
            self.bad(1, "parts", NIL, ("K", "A", wants, "a" + "1234"[:len(wants)]))
        for wants in (("K", "K", "digit"), ("digit", "digit", "digit"), ("K", "digit", "K")):
            Table("t", NIL, ("K", "A", wants, "a123"))

    def test_pass_1_form(self):
        for wants, form in (
            ((), ""), ((), "abcdefghi"), ((), "A"), ((), "_"), ((), "a b"), ((), "a0"), ((), "a1"), (("K",), "a"),
            (("K",), "a11"), (("K",), "a2"), (("K",), "a12"), (("K",), "1a"), (("digit", "K"), "2a1"), (("K", "K"), "a1"),
            (("digit",), "0"), ((), "'"), ((), '"'), ((), "$"), ((), "{"), ((), "\\"), ((), "`"), (("K",), "a1 "),
            (("K", "K"), "a21b1"),
        ):
            self.bad(1, "form", NIL, ("K", "X", wants, form))
        for wants, form in (
            (("digit",), "1"), (("digit", "K"), "1a2"), (("K", "digit"), "2a1"), (("K", "K"), "a21"), ((), "abcdefgh"),
            ((), "([<>])+-"), ((), "*/.,;:!?"), ((), "=&|^~@#"), (("digit", "digit"), "21"), (("K", "K"), "(12)...."),
        ):
            table = Table("t", NIL, ("K", "X", wants, form))
            self.assertEqual(table.maker("X").form, form)

    def test_pass_2_kind(self):
        self.bad(1, "kind", NIL, ("K", "A", ("L",), "a1"))
        self.bad(0, "kind", ("K", "A", ("L",), "a1"), ("M", "B", ("L",), "a1"))
        self.assertEqual(Table("t", ("K", "A", ("L",), "a1"), ("L", "B", (), "a")).kinds, ("K", "L"))

    def test_pass_3_begins(self):
        self.bad(1, "begins", NIL, ("K", "A", (), "zz"))
        self.bad(2, "begins", ("K", "A", ("digit",), "1"), NIL, ("K", "B", ("digit", "digit"), "2a1"))
        self.bad(2, "begins", NIL, ("L", "A", (), "z"), ("L", "B", (), "z1"[:1]))
        Table("t", NIL, ("L", "A", (), "z"), ("L", "B", ("digit",), "1"), ("K", "C", ("digit",), "1"))

    def test_pass_4_finite(self):
        self.bad(0, "finite", ("K", "A", ("K",), "a1"))
        self.bad(1, "finite", NIL, ("L", "A", ("L",), "a1"), ("L", "B", ("K", "L"), "b12"))
        self.bad(0, "finite", ("K", "A", ("L",), "a1"), ("L", "B", ("K",), "a1"))
        self.bad(0, "finite", ("K", "A", ("K",), "a1"), ("L", "B", ("L",), "a1"))
        Table("t", ("K", "A", ("L",), "a1"), ("L", "B", ("K",), "a1"), ("L", "C", ("digit",), "1"))

    def test_two_faults_at_once(self):
        # The pass comes first, then the row, then the reason.
        self.bad(1, "form", ("K", "A", ("L",), "a1"), ("K", "B", (), ""))
        self.bad(0, "name", ("k", "A", (), ""), ("k", "A", (), ""))
        self.bad(1, "repeated", NIL, ("K", "Nil", ("K", "K", "K"), ""))
        self.bad(1, "parts", NIL, ("K", "A", ("K", "K", "K"), ""))
        self.bad(2, "kind", NIL, ("K", "A", (), "z"), ("K", "B", ("L",), "b1"))
        self.bad(1, "begins", ("K", "A", ("K",), "a1"), ("K", "B", ("K",), "a1"))
        three = [("A", "A", (), "a"), ("B", "B", (), "b"), ("C", "C", (), "c")]
        self.bad(3, "name", *three, ("D", "d", (), "d"))
        self.bad(2, "repeated", NIL, ("K", "A", ("L",), "z1"), ("K", "A", (), "b"))


class DescriptionTest(unittest.TestCase, Raises):
    def test_reading_back(self):
        for table in (LANG, ODD):
            again = Table.read(table.description)
            self.assertEqual(again.description, table.description)
            self.assertEqual(again, table)
        self.assertEqual(ODD.maker("Both").wants, ("digit", "K", "digit"))
        self.assertEqual(Table.read("table t\nK: A = =").maker("A").form, "=")
        self.assertEqual(Table.read("table t\nK: A K = =1\nK: B = :").maker("A").wants, ("K",))

    def test_lines_without_their_shape(self):
        good = "table t\nK: S K = s1\nK: Z = z"
        Table.read(good)
        for description, line in (
            ("", 1), ("table", 1), ("table ", 1), ("table  t", 1), ("table t ", 1), (" table t", 1), ("table t u", 1),
            ("Table t", 1), ("tablet", 1), ("\ntable t", 1), ("table t\n", 2), (good + "\n", 4), (good + "\n\n", 4),
            ("table t\nK S K = s1", 2), ("table t\nK: S K s1", 2), ("table t\nK: = z", 2), ("table t\nK: Z =", 2),
            ("table t\nK: Z = ", 2), ("table t\nK:  Z = z", 2), ("table t\nK: Z  = z", 2), ("table t\nK: Z =  z", 2),
            ("table t\nK: Z = z ", 2), ("table t\n K: Z = z", 2), ("table t\nK: Z = z\nK: S K = s 1", 3),
            ("table t\nK : Z = z", 2), ("table t\nK: Z == z", 2), ("table t\n\nK: Z = z", 2), ("table t\nK:Z = z z", 2),
            ("tabel t\nbad", 1), ("table T\nK: Z = z\nbad", 3), ("table t\nbad\nK: k = s", 2),
        ):
            self.raises(BadLine, Table.read, description, line=line)

    def test_errors_of_the_table(self):
        self.raises(BadName, Table.read, "table T\nK: Z = z", name="T")
        self.raises(BadName, Table.read, "table digit\nk: Z = z", name="digit")
        self.raises(BadCount, Table.read, "table t", count=0)
        self.raises(BadTable, Table.read, "table t\n: Z = z", row=0, reason="name")
        self.raises(BadTable, Table.read, "table t\nK:: Z = z", row=0, reason="name")
        self.raises(BadTable, Table.read, "table t\nK: = = z", row=0, reason="name")
        self.raises(BadTable, Table.read, "table t\nK: Z = z\nK: S = = s", row=1, reason="name")
        many = "\n".join(f"K: M{at} = {sign}" for at, sign in enumerate("abcdefghijk"))
        self.raises(BadCount, Table.read, "table t\n" + many, count=11)

    def test_equality(self):
        self.assertEqual(Table("t", NIL), Table("t", NIL))
        self.assertNotEqual(Table("t", NIL), Table("u", NIL))
        self.assertNotEqual(Table("t", NIL), Table("t", ("K", "Nil", (), "y")))
        self.assertFalse(Table("t", NIL) == "table t\nK: Nil = z")


class MakersTest(unittest.TestCase, Raises):
    def test_in(self):
        self.assertIs("Add" in LANG, True)
        for name in ("Expr", "add", "", "_", "0", "Lang"):
            self.assertIs(name in LANG, False)

    def test_maker(self):
        self.assertEqual(LANG.maker("Neg").form, "-1")
        for name in ("Expr", "", "digit", "1"):
            self.raises(Unknown, LANG.maker, name, name=name)

    def test_makers(self):
        self.assertEqual([maker.name for maker in ODD.makers("L")], ["List", "Stop", "One"])
        self.assertEqual([maker.name for maker in ODD.makers("K")], ["Swap", "Both", "End"])
        self.assertIsInstance(ODD.makers("K"), tuple)
        for kind in ("digit", "M", "", "List"):
            self.raises(Unknown, ODD.makers, kind, name=kind)

    def test_least(self):
        self.assertEqual([ODD.least(kind).term for kind in ("K", "L", "digit")], ["End", "Stop", "0"])
        table = Table("t", ("A", "P", ("B", "B"), "p12"), ("A", "Q", ("digit", "digit"), "q12"), ("B", "Z", (), "z"),
                      ("B", "Y", (), "y"), ("C", "X", ("A", "digit"), "x12"))
        self.assertEqual([table.least(kind).term for kind in table.kinds], ["P(Y, Y)", "Y", "X(P(Y, Y), 0)"])
        for kind in ("D", "", "P"):
            self.raises(Unknown, table.least, kind, name=kind)

    def test_least_against_all_trees(self):
        for table in (LANG, ODD, Table.read("table t\nA: F B B = f12\nB: G C = g1\nB: H digit digit digit = h123\nC: I = i")):
            trees = right_trees(table, 6, "0")
            for kind in table.kinds:
                least = table.least(kind)
                self.assertTrue(all(least <= tree for tree in trees[kind]))
                self.assertIn(least, trees[kind])


class CheckTest(unittest.TestCase, Raises):
    def test_right_trees(self):
        for kind, trees in right_trees(ODD, 6).items():
            for tree in trees:
                self.assertIsNone(ODD.check(tree, kind))
                self.assertIsNone(ODD.check(tree, kind, holes=True))
                for other in ("K", "L", "digit"):
                    self.assertIs(ODD.fits(tree, other), other == kind)

    def test_exchanging_places_for_holes(self):
        for tree in right_trees(ODD, 6)["K"]:
            for path in tree.paths():
                holed = tree.exchanged(path, Tree("_"))
                self.assertTrue(ODD.fits(holed, "K", holes=True))
                self.assertFalse(ODD.fits(holed, "K"))
                self.raises(WrongTree, ODD.check, holed, "K", path=path)

    def test_wrong_trees(self):
        for term, kind, path in (
            ("Nil", "digit", ()), ("1", "Expr", ()), ("Foo", "Expr", ()), ("Nil(Nil)", "Expr", ()), ("Add(Nil)", "Expr", ()),
            ("Add(Nil, Nil, Nil)", "Expr", ()), ("Add(Nil, 1)", "Expr", (1,)), ("Num(Nil)", "Expr", (0,)),
            ("Add(Num(Nil), Foo)", "Expr", (0, 0)), ("Add(Add(Nil, Nil), Foo)", "Expr", (1,)), ("Num", "Expr", ()),
            ("Add(Neg, Foo)", "Expr", (0,)), ("Expr", "Expr", ()), ("Add(Foo, Add(Nil))", "Expr", (0,)), ("_", "Expr", ()),
            ("_", "digit", ()), ("Num(_)", "Expr", (0,)), ("Add(_, Foo)", "Expr", (0,)),
        ):
            self.raises(WrongTree, LANG.check, read(term), kind, path=path)
            self.assertIs(LANG.fits(read(term), kind), False)
        self.raises(WrongTree, LANG.check, Tree("1", Tree("Nil")), "digit", path=())
        self.raises(WrongTree, LANG.check, Tree("_", Tree("Nil")), "Expr", path=())

    def test_wrong_trees_with_holes(self):
        for term, path in (("Add(_, Foo)", (1,)), ("Add(_)", ()), ("Num(Nil)", (0,)), ("Neg(Add(_, _, _))", (0,))):
            with self.assertRaises(WrongTree) as caught:
                LANG.check(read(term), "Expr", holes=True)
            self.assertEqual(caught.exception.path, path)
            self.assertIs(LANG.fits(read(term), "Expr", holes=True), False)
        self.assertIsNone(LANG.check(read("_"), "digit", holes=True))

    def test_kinds_of_other_tables(self):
        table = Table.read("table t\nK: A L = a1\nL: B = b")
        self.raises(WrongTree, table.check, read("A(A(B))"), "K", path=(0,))
        self.raises(WrongTree, table.check, read("A(B)"), "L", path=())

    def test_unknown_kinds_come_first(self):
        for kind in ("Foo", "", "expr", "Add", "digits"):
            self.raises(Unknown, LANG.check, read("Foo"), kind, name=kind)
            self.raises(Unknown, LANG.fits, read("Nil"), kind, name=kind)
            self.raises(Unknown, LANG.least, kind, name=kind)


if __name__ == "__main__":
    unittest.main()
