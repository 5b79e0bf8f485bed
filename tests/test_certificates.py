import unittest

from helpers import Raises
from treeworks.certificates import Certificate, Reach, Shown
from treeworks.errors import BadCertificate

LOTS = ["Nil", "Neg(Nil)", "0"]
SHOWS = [("t", "Nil", "Nil"), ("t.u", "Neg(Nil)", "Neg(_)"), ("t", "Neg(Nil)", "_"), ("q", "0", "7")]
OPENINGS = [((1,), "Add(Nil, Nil)", "Add(Nil, Neg(Nil))"), ((), "Nil", "Num(3)"), ((0, 12, 2), "0", "1")]
RANKS = [("Nil", "Neg(Nil)", 0), ("Neg(Nil)", "Nil", 123456789)]
SHOWN = Shown("a.b2.c", "Add(_, Num(3))", "Add(Num(3), _)", LOTS, SHOWS, OPENINGS)
REACH = Reach("a", 10, LOTS, RANKS)
SHOWN_LINES = [
    "shown a.b2.c / Add(_, Num(3)) => Add(Num(3), _)",
    "lot Nil", "lot Neg(Nil)", "lot 0",
    "line t Nil => Nil", "line t.u Neg(Nil) => Neg(_)", "line t Neg(Nil) => _", "line q 0 => 7",
    "hole 1: Add(Nil, Nil) / Add(Nil, Neg(Nil))", "hole -: Nil / Num(3)", "hole 0.12.2: 0 / 1",
]
REACH_LINES = ["reach a / 10", "lot Nil", "lot Neg(Nil)", "lot 0", "rank Nil / Neg(Nil) = 0", "rank Neg(Nil) / Nil = 123456789"]


def read_lines(lines):
    return Certificate.read("\n".join(lines))


class WritingTest(unittest.TestCase):
    def test_lines(self):
        self.assertEqual(SHOWN.lines(), SHOWN_LINES)
        self.assertEqual(REACH.lines(), REACH_LINES)
        self.assertEqual((SHOWN.claim, REACH.claim), (SHOWN_LINES[0], REACH_LINES[0]))

    def test_attributes(self):
        self.assertEqual((SHOWN.title, SHOWN.term, SHOWN.pattern), ("a.b2.c", "Add(_, Num(3))", "Add(Num(3), _)"))
        self.assertEqual((SHOWN.lots, SHOWN.shows, SHOWN.openings), (tuple(LOTS), tuple(SHOWS), tuple(OPENINGS)))
        self.assertEqual((REACH.title, REACH.frames, REACH.lots, REACH.ranks), ("a", 10, tuple(LOTS), tuple(RANKS)))

    def test_kinds_of_objects(self):
        for certificate in (SHOWN, REACH):
            self.assertIsInstance(certificate, Certificate)
            self.assertIn("lines", vars(certificate.__class__))
        self.assertNotIsInstance(SHOWN, Reach)
        self.assertNotIsInstance(REACH, Shown)

    def test_without_further_lines(self):
        self.assertEqual(Shown("a", "_", "_", [], [], []).lines(), ["shown a / _ => _"])
        self.assertEqual(Reach("a", 0, [], []).lines(), ["reach a / 0"])

    def test_nothing_is_checked(self):
        self.assertEqual(Shown("A b", "x", "", ["?"], [], []).lines(), ["shown A b / x => ", "lot ?"])
        self.assertEqual(Reach("", -1, [], []).lines(), ["reach  / -1"])

    def test_later_changes_have_no_effect(self):
        lots, shows, openings, ranks = list(LOTS), list(SHOWS), list(OPENINGS), list(RANKS)
        shown, reach = Shown("a.b2.c", "Add(_, Num(3))", "Add(Num(3), _)", lots, shows, openings), Reach("a", 10, lots, ranks)
        for row in (lots, shows, openings, ranks):
            row.clear()
        self.assertEqual((shown.lines(), reach.lines()), (SHOWN_LINES, REACH_LINES))
        shown.lines().clear()
        self.assertEqual(shown.lines(), SHOWN_LINES)


class ReadingTest(unittest.TestCase, Raises):
    def test_the_same_attributes_and_lines(self):
        for certificate in (SHOWN, REACH):
            again = read_lines(certificate.lines())
            self.assertIs(again.__class__, certificate.__class__)
            self.assertEqual(vars(again), vars(certificate))
            self.assertEqual(again.lines(), certificate.lines())

    def test_each_part_may_be_missing(self):
        for kept in ([0], [0, 1], [0, 4], [0, 8], [0, 1, 8], [0, 4, 9], [0, 1, 2, 5]):
            lines = [SHOWN_LINES[at] for at in kept]
            self.assertEqual(read_lines(lines).lines(), lines)
        for kept in ([0], [0, 1], [0, 4], [0, 3, 4, 5]):
            lines = [REACH_LINES[at] for at in kept]
            self.assertEqual(read_lines(lines).lines(), lines)

    def test_trees_are_not_looked_at(self):
        lines = ["shown t / Nope(_, 3) => 4", "lot Nope", "lot Nope", "line t Nope => Nope(Nope)", "hole 3: 1 / 1"]
        self.assertEqual(read_lines(lines).lines(), lines)

    def refuse(self, lines, at):
        self.raises(BadCertificate, read_lines, lines, line=at)

    def test_the_first_line(self):
        for line in [
            "", " ", "shown", "reach", "shown ", "reach ", "showna / _ => _", "lot Nil", "Shown a / _ => _", "shown a / _ = _", "shown a / _",
            "shown a => _", "shown a / _ => _ ", " shown a / _ => _", "shown  a / _ => _", "shown a  / _ => _", "shown a / _  => _",
            "shown a / _ =>  _", "shown A / _ => _", "shown a. / _ => _", "shown .a / _ => _", "shown a..b / _ => _", "shown a,b / _ => _",
            "shown digit / _ => _", "shown a.digit / _ => _", "shown abcdefghi / _ => _", "shown / _ => _", "shown 1a / _ => _",
            "shown a / x => _", "shown a / _ => x", "shown a / Nil() => _", "shown a / Add(Nil,Nil) => _", "shown a / _ => Add(Nil,  Nil)",
            "shown a / A(B, C, D, E) => _", "shown a / 12 => _", "shown a / _ => _(A)", "shown a / _ => 3(A)", "shown a / _ => _ => _",
            "shown a / _ / _ => _", "shown a/ _ => _", "reach a / _ => _", "shown a / 3",
        ]:
            self.refuse([line], 1)
            self.refuse([line, "nonsense"], 1)

    def test_the_first_line_of_a_reach(self):
        for line in [
            "reach a", "reach a /", "reach a / ", "reach a / 01", "reach a / 00", "reach a / -1", "reach a / +1", "reach a / 1 ", "reach a / 1.0",
            "reach a /  1", "reach a  / 1", "reach  a / 1", "reach A / 1", "reach a. / 1", "reach a / x", "reach a / 1234567890", "reach a / 1_0",
            "reach a / 1 / 1", "reach / 1", "a / 1", "a / _ => _",
        ]:
            self.refuse([line], 1)
        self.assertEqual(read_lines(["reach a.b / 999999999"]).frames, 999999999)
        self.assertEqual(read_lines(["reach a / 0"]).frames, 0)

    def test_lot_lines(self):
        for line in ["lot", "lot ", "lot _", "lot Neg(_)", "lot  Nil", "lot Nil ", "lot x", "lot Nil()", "lots Nil", "lot Nil Nil", "Lot Nil", "lot 12", "Nil"]:
            self.refuse([SHOWN_LINES[0], "lot Nil", line, "lot Nil"], 3)
            self.refuse([REACH_LINES[0], line], 2)

    def test_line_lines(self):
        for line in [
            "line", "line t", "line t Nil", "line t Nil =>", "line t Nil => ", "line t => Nil", "line Nil => Nil", "line T Nil => Nil",
            "line t. Nil => Nil", "line t..u Nil => Nil", "line digit Nil => Nil", "line t _ => Nil", "line t Neg(_) => Nil", "line t  Nil => Nil",
            "line t Nil  => Nil", "line t Nil =>  Nil", "line t Nil => Nil ", "line t Nil = Nil", "line t Nil => x", "line t Nil => Nil => Nil",
            " line t Nil => Nil", "line t, Nil => Nil", "line abcdefghi Nil => Nil", "t Nil => Nil",
        ]:
            self.refuse([SHOWN_LINES[0], "line t Nil => _", line], 3)
        self.refuse([REACH_LINES[0], "line t Nil => Nil"], 2)

    def test_hole_lines(self):
        for line in [
            "hole", "hole -", "hole -:", "hole -: Nil", "hole -: Nil / ", "hole -: / Nil", "hole : Nil / Nil", "hole 01: Nil / Nil",
            "hole 0.: Nil / Nil", "hole .0: Nil / Nil", "hole 0..1: Nil / Nil", "hole 0.01: Nil / Nil", "hole --: Nil / Nil", "hole -1: Nil / Nil",
            "hole -.1: Nil / Nil", "hole 1.-: Nil / Nil", "hole 0 .1: Nil / Nil", "hole 0,1: Nil / Nil", "hole 1234567890: Nil / Nil",
            "hole 0: _ / Nil", "hole 0: Nil / Neg(_)", "hole 0:  Nil / Nil", "hole 0: Nil  / Nil", "hole 0: Nil /  Nil", "hole 0: Nil / Nil ",
            "hole  0: Nil / Nil", "hole 0 : Nil / Nil", "hole 0: Nil / Nil / Nil", "hole 0:Nil / Nil", "hole 0: Nil/Nil", "hole 0: x / Nil", "0: Nil / Nil",
        ]:
            self.refuse([SHOWN_LINES[0], "lot Nil", "hole 0: Nil / Nil", line, "hole 0: Nil / Nil"], 4)
        self.refuse([REACH_LINES[0], "hole 0: Nil / Nil"], 2)
        self.assertEqual(read_lines([SHOWN_LINES[0], "hole 10.0: Nil / Nil"]).openings, (((10, 0), "Nil", "Nil"),))

    def test_rank_lines(self):
        for line in [
            "rank", "rank Nil / Nil", "rank Nil / Nil =", "rank Nil / Nil = ", "rank Nil = 1", "rank Nil / = 1", "rank / Nil = 1",
            "rank Nil / Nil = 01", "rank Nil / Nil = -1", "rank Nil / Nil = 1 ", "rank Nil / Nil =  1", "rank Nil / Nil  = 1", "rank  Nil / Nil = 1",
            "rank Nil / _ = 1", "rank Neg(_) / Nil = 1", "rank Nil / Nil = 1234567890", "rank Nil / Nil = x", "rank Nil / Nil = 1 = 1",
            "rank Nil / x = 1", "rank Nil / Nil / Nil = 1", "ranks Nil / Nil = 1", "Nil / Nil = 1",
        ]:
            self.refuse([REACH_LINES[0], "lot Nil", "rank Nil / Nil = 3", line], 4)
        self.refuse([SHOWN_LINES[0], "rank Nil / Nil = 1"], 2)

    def test_lines_in_a_wrong_order(self):
        self.refuse([SHOWN_LINES[0], "line t Nil => Nil", "lot Nil"], 3)
        self.refuse([SHOWN_LINES[0], "hole 0: Nil / Nil", "line t Nil => Nil"], 3)
        self.refuse([SHOWN_LINES[0], "hole 0: Nil / Nil", "lot Nil", "lot _"], 3)
        self.refuse([REACH_LINES[0], "rank Nil / Nil = 1", "lot Nil"], 3)
        self.refuse([SHOWN_LINES[0], SHOWN_LINES[0]], 2)
        self.refuse(SHOWN_LINES + [REACH_LINES[0]], 12)
        self.refuse(SHOWN_LINES[1:], 1)

    def test_empty_lines(self):
        self.refuse([""], 1)
        self.refuse(["", SHOWN_LINES[0]], 1)
        self.refuse(SHOWN_LINES + [""], 12)
        self.refuse(REACH_LINES + [""], 7)
        self.refuse(SHOWN_LINES[:3] + [""] + SHOWN_LINES[3:], 4)
        self.refuse([SHOWN_LINES[0], ""], 2)

    def test_large_trees(self):
        deep = "Neg(" * 59 + "Nil" + ")" * 59
        lines = [f"shown t / {deep} => {deep}", f"lot {deep}", f"line t {deep} => {deep}", f"hole {'.'.join(['0'] * 59)}: {deep} / {deep}"]
        self.assertEqual(read_lines(lines).lines(), lines)


if __name__ == "__main__":
    unittest.main()
