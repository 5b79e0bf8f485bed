import unittest

from helpers import LANG, Raises, read, right_trees, terms
from treeworks.errors import BadCount, BadTerm, NoPlace
from treeworks.trees import Tree, in_order, written_tree


class TermsTest(unittest.TestCase, Raises):
    def test_example(self):
        a, b = Tree.read("Add(Num(1), Nil)"), Tree.read("Add(Num(2), Neg(Nil))")
        both = a & b
        self.assertEqual(
            [both.term, both.size, both.levels, both.holes(), both.covers(a)],
            ["Add(Num(_), _)", 4, 3, [(0, 0), (1,)], True],
        )

    def test_terms_are_read_back(self):
        for term in (
            "_", "0", "9", "A", "Abcdefg8", "A(_)", "A(7)", "A(B, _)", "A(1, 2, 3)", "Add(Num(1), _)",
            "A(B(C(D)), E(F, G(_, H)), 0)", "Z9(A1, B2)", "ABCDEFGH(X)",
        ):
            tree = Tree.read(term)
            self.assertEqual(tree.term, term)
            self.assertIsInstance(tree, Tree)

    def test_what_is_read(self):
        tree = read("Add(Num(1), _)")
        self.assertEqual(tree.name, "Add")
        self.assertEqual([part.name for part in tree.parts], ["Num", "_"])
        self.assertIsInstance(tree.parts, tuple)
        self.assertEqual((tree.size, tree.levels), (4, 3))
        self.assertEqual(tree.parts[0].parts[0].term, "1")
        self.assertEqual((read("_").size, read("_").levels, read("5").size, read("5").levels), (1, 1, 1, 1))

    def test_strings_that_are_no_terms(self):
        for term in (
            "", " ", "a", "add", "A ", " A", "A(", "A)", "A()", "A(B", "A(B))", "A(B)(C)", "A(B)C", "A(B,C)", "A(B,  C)",
            "A(B , C)", "A( B)", "A(B )", "A (B)", "A(, B)", "A(B, )", "A(B, , C)", "_(A)", "_()", "1(A)", "12", "1_",
            "__", "A_", "_A", "A(B, C, D, E)", "Abcdefgh9", "A(b)", "A(x:B)", "1A", "A-B", "A(B), C", "A, B", "(A)", "A(B) ",
            "A;B", "A(10)", "A(_(B))", "A(2(B))", ",", ")", "A(B, C,D)", "A(digit)",
        ):
            self.raises(BadTerm, Tree.read, term, term=term)

    def test_strings_without_the_form_of_a_term(self):
        for text in ("", "A(", "A()", "A(, B)", "A(B, )", "A B", "(A)", "A(B)(C)", "x:(A)(B)"):
            self.assertIsNone(written_tree(text))
        self.assertEqual(written_tree("q(x:A(_), 12, a-b)").term, "q(x:A(_), 12, a-b)")

    def test_many_levels(self):
        term = "A(" * 59 + "B" + ")" * 59
        tree = read(term)
        self.assertEqual((tree.term, tree.size, tree.levels), (term, 60, 60))

    def test_class_values(self):
        self.assertEqual((Tree.MOST_NAMES, Tree.MOST_LEVELS), (2000, 60))

    def test_constructor_checks_nothing(self):
        tree = Tree("q", Tree("x"), Tree("Nil"), Tree("1"), Tree("_"))
        self.assertEqual((tree.term, tree.size, tree.levels), ("q(x, Nil, 1, _)", 5, 2))

    def test_whole(self):
        self.assertTrue(read("Add(Num(1), Nil)").whole)
        self.assertFalse(read("Add(Num(_), Nil)").whole)
        self.assertFalse(read("_").whole)
        self.assertIs(read("1").whole, True)


class OrderTest(unittest.TestCase):
    def test_equality(self):
        self.assertEqual(read("A(B, _)"), Tree("A", Tree("B"), Tree("_")))
        self.assertNotEqual(read("A(B, _)"), read("A(_, B)"))
        self.assertFalse(read("A") == "A")
        self.assertFalse(read("A") != read("A"))

    def test_the_size_comes_first(self):
        self.assertLess(read("Z(Z)"), read("A(A, A)"))
        self.assertLess(read("A(B)"), read("A(C)"))
        self.assertLess(read("0"), read("A"))
        self.assertLess(read("A"), read("_"))
        self.assertLess(read("A(Bb, C)"), read("A(Bc, A)"))
        self.assertFalse(read("A") < read("A"))
        self.assertFalse(read("B") < read("A"))
        self.assertFalse(read("A(A)") < read("Z"))

    def test_less_or_equal(self):
        self.assertTrue(read("A") <= read("A"))
        self.assertTrue(read("A") <= read("B"))
        self.assertTrue(read("Z") <= read("A(A)"))
        self.assertFalse(read("B") <= read("A"))
        self.assertFalse(read("A(A)") <= read("Z"))

    def test_in_order(self):
        trees = [read(term) for term in ("B(A)", "C", "A(A, A)", "A", "C", "A(B)")]
        self.assertEqual(terms(in_order(trees)), ["A", "C", "A(B)", "B(A)", "A(A, A)"])


class CoversTest(unittest.TestCase):
    def test_covers(self):
        for first, second, covers in (
            ("_", "_", True), ("_", "A(B)", True), ("A(B)", "_", False), ("A", "A", True), ("A", "B", False),
            ("A(_)", "A(B(C))", True), ("A(_)", "A(_)", True), ("A(B)", "A(_)", False), ("A(_)", "A", False),
            ("A", "A(_)", False), ("A(_)", "A(B, C)", False), ("A(_, C)", "A(B, C)", True), ("A(_, C)", "A(B, D)", False),
            ("Num(_)", "Num(4)", True), ("Num(4)", "Num(5)", False), ("4", "4", True),
        ):
            self.assertIs(read(first).covers(read(second)), covers, (first, second))

    def test_common_part(self):
        for first, second, common in (
            ("A", "A", "A"), ("A", "B", "_"), ("_", "A", "_"), ("A", "_", "_"), ("_", "_", "_"), ("A(B)", "A(B, C)", "_"),
            ("A(B, C)", "A(B, D)", "A(B, _)"), ("A(B(C), D)", "A(B(E), D)", "A(B(_), D)"), ("1", "2", "_"), ("3", "3", "3"),
            ("A(_)", "A(B(C))", "A(_)"),
        ):
            self.assertEqual((read(first) & read(second)).term, common)

    def test_the_common_part_is_the_greatest(self):
        trees = [*right_trees(LANG, 4)["Expr"], read("_"), read("Add(_, Nil)"), read("Neg(_)"), read("Num(_)")]
        for first in trees:
            for second in trees:
                common = first & second
                self.assertTrue(common.covers(first) and common.covers(second))
                for other in trees:
                    if other.covers(first) and other.covers(second):
                        self.assertTrue(other.covers(common))


class PlacesTest(unittest.TestCase, Raises):
    TREE = read("A(B(C, 1), _, D(_))")

    def test_reading_order(self):
        paths = [(), (0,), (0, 0), (0, 1), (1,), (2,), (2, 0)]
        self.assertEqual(list(self.TREE.paths()), paths)
        self.assertEqual(terms([self.TREE[path] for path in paths]),
                         ["A(B(C, 1), _, D(_))", "B(C, 1)", "C", "1", "_", "D(_)", "_"])
        self.assertEqual(list(read("_").paths()), [()])
        self.assertEqual(iter(self.TREE.paths()).__class__.__name__, "generator")

    def test_no_place(self):
        for path in ((-1,), (3,), (0, 2), (0, -1), (1, 0), (0, 0, 0), (2, 0, 0), (100,), (-1, 0)):
            self.assertFalse(path in self.TREE, path)
            self.raises(NoPlace, self.TREE.__getitem__, path, path=path)
            self.raises(NoPlace, self.TREE.exchanged, path, read("A"), path=path)

    def test_places(self):
        for path in self.TREE.paths():
            self.assertIs(path in self.TREE, True)

    def test_parts_in_order(self):
        self.assertEqual(terms([part for part in self.TREE]), ["B(C, 1)", "_", "D(_)"])
        self.assertEqual(list(read("Nil")), [])

    def test_exchanged(self):
        for path, term in (
            ((), "X(_)"), ((0,), "A(X(_), _, D(_))"), ((0, 1), "A(B(C, X(_)), _, D(_))"), ((2, 0), "A(B(C, 1), _, D(X(_)))"),
        ):
            tree = self.TREE.exchanged(path, read("X(_)"))
            self.assertEqual(tree.term, term)
            self.assertEqual(tree, read(term))
            self.assertEqual((tree.size, tree.levels), (read(term).size, read(term).levels))
        self.assertEqual(self.TREE.term, "A(B(C, 1), _, D(_))")

    def test_holes(self):
        self.assertEqual(self.TREE.holes(), [(1,), (2, 0)])
        self.assertEqual(read("_").holes(), [()])
        self.assertEqual(read("A(1)").holes(), [])
        self.TREE.holes().append(())
        self.assertEqual(self.TREE.holes(), [(1,), (2, 0)])

    def test_filled(self):
        self.assertEqual(self.TREE.filled(read("X(_)"), read("5")).term, "A(B(C, 1), X(_), D(5))")
        self.assertEqual(read("_").filled(read("A(_, _)")).term, "A(_, _)")
        self.assertEqual(read("A(B)").filled().term, "A(B)")
        self.assertEqual(read("A(_, B(_, _))").filled(read("_"), read("C"), read("_")).term, "A(_, B(C, _))")

    def test_filled_with_a_wrong_number(self):
        for count in (0, 1, 3):
            self.raises(BadCount, self.TREE.filled, *[read("A")] * count, count=count)
        self.raises(BadCount, read("A").filled, read("A"), count=1)
        self.raises(BadCount, read("_").filled, count=0)

    def test_recoded(self):
        tree = read("A(B(C, 1), _, D(9, 0))")
        self.assertEqual(tree.recoded("9012345678").term, "A(B(C, 0), _, D(8, 9))")
        self.assertEqual(tree.recoded("7777777777").term, "A(B(C, 7), _, D(7, 7))")
        self.assertEqual(tree.recoded("0123456789"), tree)
        self.assertEqual(read("3").recoded("0120456789").term, "0")
        self.assertEqual(tree.term, "A(B(C, 1), _, D(9, 0))")

    def test_large_trees(self):
        tree = read("Nil")
        while tree.size < 1900:
            tree = Tree("P", tree, read("P(Num(1), _)")) if tree.levels < 55 else Tree("P", tree, tree)
            if tree.levels > 60:
                break
        self.assertEqual(tree.filled(*[read("Z")] * len(tree.holes())).holes(), [])
        self.assertEqual(len(list(tree.paths())), tree.size)
        self.assertEqual(read(tree.term), tree)
        self.assertTrue(tree.covers(tree))
        self.assertEqual(tree & tree, tree)


if __name__ == "__main__":
    unittest.main()
