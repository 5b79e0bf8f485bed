import unittest

from helpers import Raises, read, terms
from treeworks.errors import BadTerm
from treeworks.rows import Row
from treeworks.trees import Tree


class RowTest(unittest.TestCase, Raises):
    def check_row(self, written, head, variables, guards, template):
        row = Row.read(written)
        self.assertEqual((row.written, row.head, row.variables), (written, head, variables))
        self.assertIsInstance(row.guards, tuple)
        self.assertEqual(terms(row.guards), guards)
        self.assertIsInstance(row.template, Tree)
        self.assertEqual(row.template.term, template)

    def test_rows(self):
        for written, head, variables, guards, template in (
            ("_ => Nil", "_", (), [], "Nil"),
            ("_ => 7", "_", (), [], "7"),
            ("Nil => Nil", "Nil", (), [], "Nil"),
            ("Num(d) => Num(d)", "Num", ("d",), ["_"], "Num(d)"),
            ("Num(d) => d", "Num", ("d",), ["_"], "d"),
            ("Num(_) => Num(3)", "Num", ("",), ["_"], "Num(3)"),
            ("Add(x:Neg(_), Nil) => Neg(top(x))", "Add", ("x", ""), ["Neg(_)", "Nil"], "Neg(top(x))"),
            ("Add(Neg(Add(_, Nil)), y) => q(y)", "Add", ("", "y"), ["Neg(Add(_, Nil))", "_"], "q(y)"),
            ("If(x:A, y:B(_, C(_), _), z) => P(q(x), q(y), F(z, 1))", "If", ("x", "y", "z"), ["A", "B(_, C(_), _)", "_"],
             "P(q(x), q(y), F(z, 1))"),
            ("A(x, x) => B", "A", ("x", "x"), ["_", "_"], "B"),
            ("A => q(x)", "A", (), [], "q(x)"),
            ("Abcdefg8(abcdefg8:Bbcdefg8) => C", "Abcdefg8", ("abcdefg8",), ["Bbcdefg8"], "C"),
        ):
            self.check_row(written, head, variables, guards, template)

    def test_not_written_so(self):
        for written in (
            "", "A", "A => ", " => A", " => ", "=>", "A=>B", "A =>B", "A=> B", "A  => B", "A =>  B", " A => B", "A => B ",
            "A => B => C", "A -> B", "a => B", "q(x) => B", "7 => B", "_(x) => B", "A() => B", "A(x,y) => B", "A(x , y) => B",
            "A(x,  y) => B", "A( x) => B", "A(x => B", "A(x)) => B", "A(x) B => C", "A(1) => B", "A(B(1)) => C", "A(x:B(1)) => C",
            "A(x:_) => B", "A(x:y) => B", "A(x:1) => B", "A(x: B) => C", "A(x :B) => C", "A(x:) => B", "A(:B) => C", "A(x:B:C) => D",
            "A(X:B) => C", "A(_:B) => C", "A(digit) => B", "A(digit:B) => C", "A(x(y)) => B", "A(B(x)) => C", "A(x:B(y)) => C",
            "A(B(y:C)) => D", "A(a, b, c, d) => B", "A(B(_, _, _, _)) => C", "A(x:B(_, _, _, _)) => C", "A(abcdefghi) => B",
            "Abcdefghi => B", "A:B => C", "x:A => B", "A => _", "A => B(_)", "A => q(B)", "A => q(1)", "A => q(q(x))", "A => q(x, y)",
            "A => q(_)", "A => B(a, b, c, d)", "A => 12", "A => 1(x)", "A => digit", "A => digit(x)", "A => q(digit)", "A => x:B",
            "A => B(x:C)", "A => B()", "A => q()", "A => B(x,y)", "A => abcdefghi", "A => Abcdefghi", "A => B(C D)", "A => _(x)",
            "A => X_", "A(x)y => B", "A(__) => B",
        ):
            self.raises(BadTerm, Row.read, written, term=written)

    def test_suits(self):
        for written, term, suits in (
            ("_ => A", "Nil", True), ("_ => A", "Add(Nil, Nil)", True), ("Nil => A", "Nil", True), ("Nil => A", "Neg(Nil)", False),
            ("Neg(x) => A", "Neg(Nil)", True), ("Neg(_) => A", "Neg(Nil)", True), ("Neg(Nil) => A", "Neg(Nil)", True),
            ("Neg(Nil) => A", "Neg(Neg(Nil))", False), ("Neg(x:Neg(_)) => A", "Neg(Neg(Nil))", True),
            ("Neg(x:Neg(_)) => A", "Neg(Nil)", False), ("Add(Neg(_), x) => A", "Add(Neg(Num(1)), Nil)", True),
            ("Add(x, Neg(_)) => A", "Add(Neg(Num(1)), Nil)", False), ("Add(Nil, Nil) => A", "Add(Nil, Neg(Nil))", False),
            ("Add(x, y:Add(_, Neg(_))) => A", "Add(Nil, Add(Nil, Neg(Nil)))", True), ("Num(d) => A", "Num(3)", True),
            ("Add(x, y:Add(_, Neg(_))) => A", "Add(Nil, Add(Nil, Nil))", False), ("Num(d) => A", "Nil", False),
            ("Add(x, y:Add(_, Num(_))) => A", "Add(Nil, Add(Nil, Num(5)))", True),
        ):
            self.assertIs(Row.read(written).suits(read(term)), suits, (written, term))


if __name__ == "__main__":
    unittest.main()
