import unittest
from itertools import product

from helpers import LANG, ODD, Raises, read, right_trees
from treeworks.errors import BadIndex, LimitExceeded, NoPlace, Unknown, WrongSign, WrongTree
from treeworks.tables import Table
from treeworks.texts import awaited, closing, parse, sign_path, sketch, stretch, text_of
from treeworks.trees import Tree

SIGNS = "(+)-0z<,>3a2b1e[:.;"


def written(table, tree):
    """The text of a tree, by the words of the document."""
    if tree.name not in table:
        return tree.name
    text = table.maker(tree.name).form
    marks = "".join(chr(200 + int(sign)) if sign.isdigit() else sign for sign in text)
    for at, part in enumerate(tree.parts):
        marks = marks.replace(chr(201 + at), written(table, part))
    return marks


def followers(table, kind, text):
    """The characters that can come behind a beginning, or None if it is none; by trying all rows at every place."""
    stacks = [(kind,)]
    for sign in text:
        stacks = [stack[1:] for stack in opened(table, stacks) if stack and stack[0] == sign]
        if not stacks:
            return None
    return "".join(sorted({stack[0] for stack in opened(table, stacks) if stack}))


def opened(table, stacks):
    """All ways to have a character in front of these rows of characters and kinds."""
    ready = []
    waiting = list(stacks)
    while waiting:
        stack = waiting.pop()
        if stack and stack[0] == "digit":
            ready.extend([(digit, *stack[1:]) for digit in "0123456789"])
        elif stack and stack[0] in table.kinds:
            for maker in table.makers(stack[0]):
                dues = [maker.wants[int(sign) - 1] if sign.isdigit() else sign for sign in maker.form]
                waiting.append((*dues, *stack[1:]))
        else:
            ready.append(stack)
    return ready


class TextsTest(unittest.TestCase, Raises):
    def test_example(self):
        tree = parse(LANG, "Expr", "(-7+z)")
        self.assertEqual(
            [tree.term, stretch(LANG, tree, (0, 0)), sketch(LANG, "Expr", "(-").term, awaited(LANG, "Expr", "(z"),
             closing(LANG, "Expr", "(-")],
            ["Add(Neg(Num(7)), Nil)", (2, 3), "Add(Neg(_), _)", "+", "0+0)"],
        )
        self.raises(WrongSign, parse, LANG, "Expr", "(z-z)", at=2, expected="+")

    def test_text_of(self):
        for table, term, text in (
            (LANG, "Add(Neg(Num(7)), Nil)", "(-7+z)"), (LANG, "_", "_"), (LANG, "4", "4"), (LANG, "Add(_, Num(_))", "(_+_)"),
            (ODD, "Swap(End, Stop)", "<.,e>"), (ODD, "Both(1, End, 2)", "2aeb1"), (ODD, "List(Swap(_, One(1, 2)), _)", "[<2;1,_>:_"),
            (ODD, "_", "_"), (ODD, "One(_, 3)", "3;_"),
        ):
            self.assertEqual(text_of(table, read(term)), text)

    def test_text_of_wrong_trees(self):
        for function in (text_of, lambda table, tree: stretch(table, tree, (9,)), lambda table, tree: sign_path(table, tree, 99)):
            for term, path in (
                ("Foo", ()), ("Expr", ()), ("Foo(Nil)", ()), ("Add(Foo, Nil)", (0,)), ("Add(Nil, Nil, Nil)", ()),
                ("Neg(Num(Nil))", (0, 0)), ("Add(_, Add(_))", (1,)), ("Neg(1)", (0,)),
            ):
                self.raises(WrongTree, function, LANG, read(term), path=path)
            self.raises(WrongTree, function, LANG, Tree("1", Tree("Nil")), path=())
            self.raises(WrongTree, function, LANG, Tree("_", Tree("Nil")), path=())

    def test_writing_and_reading_back(self):
        for table in (LANG, ODD):
            texts = {}
            for kind, trees in right_trees(table, 6).items():
                for tree in trees:
                    text = text_of(table, tree)
                    self.assertEqual(text, written(table, tree))
                    self.assertEqual(parse(table, kind, text), tree)
                    self.assertNotIn((kind, text), texts)
                    texts[(kind, text)] = True

    def test_digits_are_a_kind(self):
        self.assertEqual(parse(LANG, "digit", "7").term, "7")
        self.raises(WrongSign, parse, LANG, "digit", "", at=0, expected="0123456789")
        self.raises(WrongSign, parse, LANG, "digit", "77", at=1, expected="")
        self.raises(WrongSign, parse, LANG, "digit", "z", at=0, expected="0123456789")

    def test_unknown_kinds(self):
        for function in (parse, sketch, awaited, closing):
            for kind in ("Foo", "", "Add"):
                self.raises(Unknown, function, LANG, kind, "???", name=kind)

    def test_wrong_signs(self):
        for text, at, expected in (
            ("", 0, "(-0123456789z"), ("x", 0, "(-0123456789z"), ("_", 0, "(-0123456789z"), ("A", 0, "(-0123456789z"),
            (" ", 0, "(-0123456789z"), ("(", 1, "(-0123456789z"), ("(z", 2, "+"), ("(z)", 2, "+"), ("(z+", 3, "(-0123456789z"),
            ("(z+z", 4, ")"), ("(z+z(", 4, ")"), ("zz", 1, ""), ("z ", 1, ""), ("(z+z)x", 5, ""), ("-", 1, "(-0123456789z"),
            ("12", 1, ""), ("(1+2)3", 5, ""), ("-)", 1, "(-0123456789z"),
        ):
            wanted = "".join(sorted(expected))
            self.raises(WrongSign, parse, LANG, "Expr", text, at=at, expected=wanted)

    def test_wrong_signs_against_all_ways(self):
        for table, kind in ((LANG, "Expr"), (ODD, "K"), (ODD, "L"), (ODD, "digit")):
            for length in range(4):
                for signs in product(SIGNS, repeat=length):
                    self.check_text(table, kind, "".join(signs))

    def check_text(self, table, kind, text):
        at = 0
        while at < len(text) and followers(table, kind, text[:at + 1]) is not None:
            at += 1
        expected = followers(table, kind, text[:at])
        if at < len(text) or expected:
            self.raises(WrongSign, parse, table, kind, text, at=at, expected=expected)
        else:
            self.assertEqual(written(table, parse(table, kind, text)), text)
        if at < len(text):
            for function in (sketch, awaited, closing):
                self.raises(WrongSign, function, table, kind, text, at=at, expected=expected)
        else:
            self.assertEqual(awaited(table, kind, text), expected)


class LargeTextsTest(unittest.TestCase, Raises):
    def test_sixty_levels(self):
        tree = parse(LANG, "Expr", "-" * 59 + "z")
        self.assertEqual((tree.levels, tree.size), (60, 60))
        self.assertEqual(text_of(LANG, tree), "-" * 59 + "z")
        self.assertEqual(parse(LANG, "Expr", "-" * 58 + "7").levels, 60)

    def test_level_61(self):
        for text in (
            "-" * 60 + "z", "-" * 60 + "(", "-" * 60 + "(x", "-" * 60 + "-", "-" * 60 + "7", "-" * 59 + "7", "-" * 59 + "7x",
            "(z+" * 60 + "zx", "-" * 100, "-" * 16000, "(-z+" + "-" * 59 + "zA",
        ):
            self.raises(LimitExceeded, parse, LANG, "Expr", text, limit="levels")

    def test_wrong_signs_on_level_61(self):
        starts = "".join(sorted("(-0123456789z"))
        for text, at in (("-" * 60 + "x", 60), ("-" * 60, 60), ("-" * 60 + "_", 60), ("-" * 60 + "+z", 60)):
            self.raises(WrongSign, parse, LANG, "Expr", text, at=at, expected=starts)
        self.raises(WrongSign, parse, LANG, "Expr", "x" + "-" * 60 + "z", at=0, expected=starts)
        self.raises(WrongSign, parse, LANG, "Expr", "-" * 59 + "zz", at=60, expected="")

    def test_digits_on_level_61(self):
        table = Table.read("table t\nK: S K = s1\nK: D digit = d1\nK: Z = z\nK: Two K digit = t21")
        self.assertEqual(parse(table, "K", "s" * 58 + "d5").levels, 60)
        self.raises(LimitExceeded, parse, table, "K", "s" * 59 + "d5", limit="levels")
        self.raises(WrongSign, parse, table, "K", "s" * 59 + "dx", at=60, expected="0123456789")
        self.raises(WrongSign, parse, table, "K", "s" * 59 + "d", at=60, expected="0123456789")
        self.raises(LimitExceeded, parse, table, "K", "s" * 59 + "t5", limit="levels")
        self.assertEqual(parse(table, "K", "s" * 58 + "t5z").levels, 60)

    def test_thousands_of_characters(self):
        tree = read("Nil")
        for level in range(9):
            tree = Tree("Add", tree, tree)
        self.assertEqual(tree.size, 1023)
        text = text_of(LANG, tree)
        self.assertEqual(len(text), 512 + 511 * 3)
        self.assertEqual(parse(LANG, "Expr", text), tree)
        wide = Table.read("table t\nK: P K K = ((((1+2\nK: Z = zzzzzzzz")
        tree = Tree("Z")
        for level in range(9):
            tree = Tree("P", tree, tree)
        tree = Tree("P", tree, tree.exchanged((0,), Tree("Z")))
        text = text_of(wide, tree)
        self.assertGreater(len(text), 9000)
        self.assertEqual(parse(wide, "K", text), tree)
        at = len(text) // 2
        self.assertEqual(text_of(wide, tree)[slice(*stretch(wide, tree, sign_path(wide, tree, at)))],
                         text_of(wide, tree[sign_path(wide, tree, at)]))

    def test_the_number_of_names_is_not_bounded(self):
        tree = parse(LANG, "Expr", "(" * 12 + "z" + "".join("+z)" for _ in range(12)))
        self.assertEqual(tree.size, 25)
        text = "z"
        for _ in range(12):
            text = f"({text}+{text})"
        self.assertEqual(parse(LANG, "Expr", text).size, 8191)


class BeginningsTest(unittest.TestCase, Raises):
    def test_sketches(self):
        for table, kind, text, term in (
            (LANG, "Expr", "", "_"), (LANG, "Expr", "(", "Add(_, _)"), (LANG, "Expr", "7", "Num(7)"), (LANG, "Expr", "z", "Nil"),
            (LANG, "Expr", "(7", "Add(Num(7), _)"), (LANG, "Expr", "(7+", "Add(Num(7), _)"), (LANG, "Expr", "(7+-", "Add(Num(7), Neg(_))"),
            (LANG, "Expr", "(7+-z", "Add(Num(7), Neg(Nil))"), (LANG, "digit", "", "_"), (LANG, "digit", "3", "3"),
            (ODD, "K", "<", "Swap(_, _)"), (ODD, "K", "<.", "Swap(_, Stop)"), (ODD, "K", "5", "Both(_, _, 5)"),
            (ODD, "K", "5ae", "Both(_, End, 5)"), (ODD, "K", "5aeb", "Both(_, End, 5)"), (ODD, "K", "5aeb4", "Both(4, End, 5)"),
            (ODD, "L", "8", "One(_, 8)"), (ODD, "L", "[8a", "List(Both(_, _, 8), _)"),
        ):
            self.assertEqual(sketch(table, kind, text).term, term)

    def test_a_sketch_covers_the_trees_that_begin_so(self):
        for table, kind in ((LANG, "Expr"), (ODD, "K"), (ODD, "L")):
            trees = right_trees(table, 5)[kind]
            texts = [text_of(table, tree) for tree in trees]
            for beginning in {text[:end] for text in texts for end in range(len(text) + 1)}:
                found = sketch(table, kind, beginning)
                for tree, text in zip(trees, texts):
                    self.assertEqual(found.covers(tree), text.startswith(beginning), (beginning, text))

    def test_awaited(self):
        self.assertEqual(awaited(LANG, "Expr", "(7+z)"), "")
        self.assertEqual(awaited(LANG, "Expr", ""), "".join(sorted("(-0123456789z")))
        self.assertEqual(awaited(ODD, "K", "5"), "a")
        self.assertEqual(awaited(ODD, "K", "5aeb"), "0123456789")
        self.assertEqual(awaited(ODD, "L", ""), "".join(sorted("[.0123456789")))

    def test_closings(self):
        for table, kind, text, rest in (
            (LANG, "Expr", "", "0"), (LANG, "Expr", "(", "0+0)"), (LANG, "Expr", "(z+", "0)"), (LANG, "Expr", "z", ""),
            (LANG, "Expr", "((-", "0+0)+0)"), (ODD, "K", "", "e"), (ODD, "L", "", "."), (ODD, "K", "<", ".,e>"), (ODD, "K", "3", "aeb0"),
            (LANG, "digit", "", "0"), (LANG, "digit", "4", ""), (ODD, "K", "3aeb", "0"),
        ):
            self.assertEqual(closing(table, kind, text), rest)

    def test_the_first_of_several_short_closings(self):
        table = Table.read("table t\nK: B L L = x21\nK: A = zz\nK: C = yz\nL: D = y\nL: E = b\nL: F digit = c1")
        self.assertEqual(closing(table, "L", ""), "b")
        self.assertEqual(closing(table, "K", ""), "yz")
        self.assertEqual(closing(table, "K", "x"), "bb")

    def test_closings_of_parts_in_another_order(self):
        table = Table.read("table t\nA: M B digit = m2x1\nB: N C C = n21\nB: O digit C = 1o2\nC: Q = qq\nC: P = p")
        self.assertEqual([closing(table, kind, "") for kind in ("A", "B", "C")], ["m0x0op", "0op", "p"])
        self.assertEqual(closing(table, "A", "m4xn"), "pp")

    def test_closings_against_all_trees(self):
        for table, kind in ((LANG, "Expr"), (ODD, "K"), (ODD, "L")):
            texts = sorted([text_of(table, tree) for tree in right_trees(table, 7, "0")[kind]], key=lambda text: (len(text), text))
            short = [text for text in texts if len(text) <= 5]
            for beginning in {text[:end] for text in short for end in range(len(text) + 1)}:
                best = next(text for text in texts if text.startswith(beginning))
                self.assertEqual(beginning + closing(table, kind, beginning), best)

    def test_no_beginnings(self):
        for function in (sketch, awaited, closing):
            self.raises(WrongSign, function, LANG, "Expr", "z+", at=1, expected="")
            self.raises(WrongSign, function, LANG, "Expr", "(z)", at=2, expected="+")
            self.raises(WrongSign, function, LANG, "digit", "x", at=0, expected="0123456789")

    def test_fifty_characters(self):
        self.assertEqual(sketch(LANG, "Expr", "-" * 50).levels, 51)
        self.assertEqual(closing(LANG, "Expr", "(" * 50), "0" + "+0)" * 50)


class StretchesTest(unittest.TestCase, Raises):
    def test_every_place_and_every_character(self):
        for table in (LANG, ODD):
            for trees in right_trees(table, 6).values():
                for tree in trees:
                    self.check_tree(table, tree)
                    for path in tree.paths():
                        self.check_tree(table, tree.exchanged(path, Tree("_")))

    def check_tree(self, table, tree):
        text = text_of(table, tree)
        owners = [None] * len(text)
        for path in tree.paths():
            start, end = stretch(table, tree, path)
            self.assertEqual(text[start:end], text_of(table, tree[path]))
            # Parts come behind their nodes, so the innermost place is the last one that is noted.
            owners[start:end] = [path] * (end - start)
        self.assertEqual([sign_path(table, tree, at) for at in range(len(text))], owners)

    def test_stretches(self):
        tree = read("Swap(Both(1, _, 2), List(End, _))")
        self.assertEqual(text_of(ODD, tree), "<[e:_,2a_b1>")
        for path, pair in (
            ((), (0, 12)), ((0,), (6, 11)), ((1,), (1, 5)), ((0, 0), (10, 11)), ((0, 1), (8, 9)), ((0, 2), (6, 7)), ((1, 1), (4, 5)),
        ):
            self.assertEqual(stretch(ODD, tree, path), pair)
        for at, path in ((0, ()), (5, ()), (11, ()), (1, (1,)), (2, (1, 0)), (3, (1,)), (4, (1, 1)), (6, (0, 2)), (7, (0,)), (8, (0, 1))):
            self.assertEqual(sign_path(ODD, tree, at), path)

    def test_alone(self):
        self.assertEqual((stretch(LANG, read("_"), ()), sign_path(LANG, read("_"), 0)), ((0, 1), ()))
        self.assertEqual((stretch(LANG, read("5"), ()), sign_path(LANG, read("5"), 0)), ((0, 1), ()))

    def test_errors(self):
        tree = read("Add(Nil, Num(3))")
        for path in ((2,), (-1,), (0, 0), (1, 1), (1, 0, 0)):
            self.raises(NoPlace, stretch, LANG, tree, path, path=path)
        for index in (-1, 5, 100):
            self.raises(BadIndex, sign_path, LANG, tree, index, index=index)


if __name__ == "__main__":
    unittest.main()
