import unittest
from collections import Counter
from random import Random

from helpers import LANG, ODD, Raises, read, right_trees
from samples import TABLES
from treeworks.documents import Document
from treeworks.errors import BadCount, BadIndex, LimitExceeded, NoPlace, Unknown, WrongSign, WrongTree
from treeworks.tables import Table
from treeworks.texts import parse, sketch, text_of
from treeworks.trees import Tree

# Parts that stand side by side, and makers that are written alike but for their beginning.
SIDE = Table.read("table side\nK: P K K = p12\nK: S K = s1\nK: Z = z\nK: D digit = 1")


def lang(wording):
    return Document(LANG, "Expr", wording)


def told(document):
    return document.wording, document.known.term, document.broken


def typed(document, *edits):
    for edit in edits:
        document = document.edited(*edit)
    return document


def is_right(table, kind, text):
    try:
        parse(table, kind, text)
    except WrongSign:
        return False
    return True


def is_beginning(table, kind, text):
    try:
        sketch(table, kind, text)
    except WrongSign:
        return False
    return True


class Slow:
    """A document as nested lists: a node has a maker and its parts, a broken part is its raw text, a digit a tuple."""

    def __init__(self, table, kind, tree):
        self.table, self.kind, self.tree = table, kind, tree

    @classmethod
    def of(cls, table, kind, wording):
        if is_right(table, kind, wording):
            return cls(table, kind, cls.opened(table, parse(table, kind, wording)))
        return cls(table, kind, wording)

    @classmethod
    def opened(cls, table, tree):
        if tree.name.isdigit():
            return (tree.name,)
        return [table.maker(tree.name), *[cls.opened(table, part) for part in tree.parts]]

    def text(self, tree):
        if isinstance(tree, str):
            return tree
        if isinstance(tree, tuple):
            return tree[0]
        return "".join(self.text(tree[int(sign)]) if sign.isdigit() else sign for sign in tree[0].form)

    def skeleton(self, tree):
        if isinstance(tree, str):
            return Tree("_")
        if isinstance(tree, tuple):
            return Tree(tree[0])
        return Tree(tree[0].name, *[self.skeleton(part) for part in tree[1:]])

    def known(self, tree, due):
        if isinstance(tree, str):
            return sketch(self.table, due, tree) if is_beginning(self.table, due, tree) else Tree("_")
        if isinstance(tree, tuple):
            return Tree(tree[0])
        return Tree(tree[0].name, *[self.known(part, want) for part, want in zip(tree[1:], tree[0].wants)])

    def broken(self, tree, path=()):
        if isinstance(tree, str):
            return [(path, tree)]
        if isinstance(tree, tuple):
            return []
        indexes = [int(sign) - 1 for sign in tree[0].form if sign.isdigit()]
        return [pair for at in indexes for pair in self.broken(tree[at + 1], (*path, at))]

    def edited(self, at, removed, added):
        old = self.text(self.tree)
        new = old[:at] + added + old[at + removed:]
        if new == old:
            return self
        if is_right(self.table, self.kind, new):
            return Slow.of(self.table, self.kind, new)
        chain = [((), self.kind, self.tree, 0)]
        while isinstance(chain[-1][2], list):
            path, _, node, start = chain[-1]
            place = start
            for sign in node[0].form:
                part = node[int(sign)] if sign.isdigit() else sign
                length = len(self.text(part)) if sign.isdigit() else 1
                if sign.isdigit() and place <= at and at + removed <= place + length:
                    index = int(sign) - 1
                    chain.append(((*path, index), node[0].wants[index], part, place))
                    break
                place += length
            else:
                break
        texts = []
        for path, due, part, start in chain[::-1]:
            text = self.text(part)
            texts.append((path, due, text[:at - start] + added + text[at - start + removed:]))
        for path, due, text in texts:
            if is_right(self.table, due, text):
                return self.put(path, Slow.opened(self.table, parse(self.table, due, text)))
        for path, due, text in texts:
            if is_beginning(self.table, due, text):
                return self.put(path, text)
        return self.put(texts[0][0], texts[0][2])

    def put(self, path, part):
        return Slow(self.table, self.kind, self.exchanged(self.tree, path, part))

    def exchanged(self, tree, path, part):
        if not path:
            return part
        return [*tree[:path[0] + 1], self.exchanged(tree[path[0] + 1], path[1:], part), *tree[path[0] + 2:]]


class MakingTest(unittest.TestCase, Raises):
    def test_example(self):
        one = lang("(z+3)")
        two = one.edited(1, 1, "-")
        three = two.edited(4, 0, "!")
        self.assertEqual([two.wording, two.known.term, two.broken, three.wording, three.known.term, three.broken],
                         ["(-+3)", "Add(Neg(_), Num(3))", (((0,), "-"),), "(-+3!)", "Add(Neg(_), Num(_))", (((0,), "-"), ((1, 0), "3!"))])

    def test_right_wordings(self):
        document = lang("(-z+3)")
        self.assertEqual((document.table, document.kind, document.wording), (LANG, "Expr", "(-z+3)"))
        self.assertEqual((document.skeleton.term, document.known.term), ("Add(Neg(Nil), Num(3))",) * 2)
        self.assertEqual((document.broken, document.right), ((), True))

    def test_unfinished_wordings(self):
        for wording, known in (("", "_"), ("(", "Add(_, _)"), ("(-", "Add(Neg(_), _)"), ("(z+3", "Add(Nil, Num(3))"), ("-", "Neg(_)")):
            document = lang(wording)
            self.assertEqual(told(document), (wording, known, (((), wording),)))
            self.assertEqual((document.skeleton, document.right), (Tree("_"), False))

    def test_wrong_wordings(self):
        for wording in ("z3", "(z-", ")", "A", "z ", " z", "(z+z) ", "Hallo!", "$`{}\"'"):
            self.assertEqual(told(lang(wording)), (wording, "_", (((), wording),)))
            self.assertEqual((lang(wording).skeleton, lang(wording).right), (Tree("_"), False))

    def test_kinds(self):
        self.assertEqual(Document(ODD, "L", ".").skeleton, read("Stop"))
        for kind in ("digit", "Expr", "", "Swap"):
            self.raises(Unknown, Document, ODD, kind, "x" * 99, name=kind)

    def test_50_and_51_characters(self):
        self.assertTrue(lang("-" * 49 + "z").right)
        self.assertEqual(lang("-" * 50).known.levels, 51)
        for wording in ("-" * 50 + "z", "A" * 51, "z" * 500):
            self.raises(LimitExceeded, lang, wording, limit="text")


class EditedTest(unittest.TestCase, Raises):
    def test_unchanged_wordings(self):
        for wording in ("(z+3)", "(z+", "z3"):
            document = lang(wording)
            for edit in ((1, 1, wording[1]), (0, 0, ""), (len(wording), 0, ""), (0, len(wording), wording)):
                self.assertEqual(told(document.edited(*edit)), told(document))
        broken = typed(lang("(z+z)"), (1, 1, "-"), (3, 1, "!"))
        self.assertEqual(told(broken.edited(0, 5, "(-+!)")), told(broken))
        self.assertEqual(broken.edited(0, 5, "(-+!)").skeleton.term, "Add(_, _)")

    def test_right_as_a_whole(self):
        broken = typed(lang("(z+z)"), (1, 1, "-"), (3, 1, "!"))
        self.assertEqual(told(broken), ("(-+!)", "Add(Neg(_), _)", (((0,), "-"), ((1,), "!"))))
        self.assertEqual(told(broken.edited(1, 3, "3+-z")), ("(3+-z)", "Add(Num(3), Neg(Nil))", ()))
        self.assertEqual(told(broken.edited(0, 5, "z")), ("z", "Nil", ()))
        self.assertEqual(told(lang("").edited(0, 0, "-4")), ("-4", "Neg(Num(4))", ()))

    def test_a_place_of_the_chain_that_becomes_right(self):
        broken = typed(lang("(z+z)"), (1, 1, "-"), (3, 1, "!"))
        self.assertEqual(told(broken.edited(2, 0, "z")), ("(-z+!)", "Add(Neg(Nil), _)", (((1,), "!"),)))
        self.assertEqual(told(broken.edited(3, 1, "(z+z)")), ("(-+(z+z))", "Add(Neg(_), Add(Nil, Nil))", (((0,), "-"),)))
        # Broken parts within the place are gone, and its parts can have other makers then.
        inner = typed(lang("((z+z)+z)"), (7, 1, "!"), (2, 1, "-"), (4, 1, "?"))
        self.assertEqual(told(inner), ("((-+?)+!)", "Add(Add(Neg(_), _), _)", (((0, 0), "-"), ((0, 1), "?"), ((1,), "!"))))
        self.assertEqual(told(inner.edited(1, 5, "5")), ("(5+!)", "Add(Num(5), _)", (((1,), "!"),)))
        self.assertEqual(told(inner.edited(3, 2, "3+z")), ("((-3+z)+!)", "Add(Add(Neg(Num(3)), Nil), _)", (((1,), "!"),)))

    def test_the_innermost_beginning(self):
        document = lang("(-(z+3)+z)")
        self.assertEqual(told(document.edited(3, 1, "")), ("(-(+3)+z)", "Add(Neg(Add(_, Num(3))), Nil)", (((0, 0, 0), ""),)))
        self.assertEqual(told(document.edited(6, 1, "")), ("(-(z+3+z)", "Add(Neg(Add(Nil, Num(3))), Nil)", (((0, 0), "(z+3"),)))
        self.assertEqual(told(document.edited(9, 1, "")), ("(-(z+3)+z", "Add(Neg(Add(Nil, Num(3))), Nil)", (((), "(-(z+3)+z"),)))
        self.assertEqual(told(document.edited(4, 3, "")), ("(-(z+z)", "Add(Neg(Add(Nil, _)), Nil)", (((0, 0), "(z"),)))

    def test_the_innermost_place(self):
        document = lang("(-(z+3)+z)")
        self.assertEqual(told(document.edited(3, 0, "?")), ("(-(?z+3)+z)", "Add(Neg(Add(_, Num(3))), Nil)", (((0, 0, 0), "?z"),)))
        self.assertEqual(told(document.edited(5, 1, "?")), ("(-(z+?)+z)", "Add(Neg(Add(Nil, Num(_))), Nil)", (((0, 0, 1, 0), "?"),)))
        self.assertEqual(told(document.edited(7, 1, "-")), ("(-(z+3)-z)", "_", (((), "(-(z+3)-z)"),)))
        self.assertEqual(told(document.edited(0, 0, ")")), (")(-(z+3)+z)", "_", (((), ")(-(z+3)+z)"),)))

    def test_broken_parts_within_the_place_are_gone(self):
        broken = typed(lang("((z+z)+z)"), (2, 1, "!"), (7, 1, "?"))
        self.assertEqual(broken.broken, (((0, 0), "!"), ((1,), "?")))
        self.assertEqual(told(broken.edited(5, 1, "")), ("((!+z+?)", "Add(_, _)", (((0,), "(!+z"), ((1,), "?"))))
        self.assertEqual(told(broken.edited(6, 1, "-")), ("((!+z)-?)", "_", (((), "((!+z)-?)"),)))

    def test_edits_at_the_borders_of_parts(self):
        document = lang("(z+3)")
        places = [document.edited(at, 0, "!").broken[0] for at in range(6)]
        self.assertEqual(places, [((), "!(z+3)"), ((0,), "!z"), ((0,), "z!"), ((1, 0), "!3"), ((1, 0), "3!"), ((), "(z+3)!")])
        places = [document.edited(at, 1, "").broken[0] for at in range(5)]
        self.assertEqual(places, [((), "z+3)"), ((0,), ""), ((), "(z3)"), ((1, 0), ""), ((), "(z+3")])
        self.assertEqual(document.edited(1, 2, "").broken, (((), "(3)"),))

    def test_right_by_chance(self):
        broken = typed(Document(SIDE, "K", "pz4"), (2, 1, "?"), (1, 1, "zs"))
        self.assertEqual(broken.broken, (((0,), "zs"), ((1, 0), "?")))
        # The innermost place would be right, too, but the other part is broken no longer.
        self.assertEqual(told(broken.edited(3, 1, "4")), ("pzs4", "P(Z, S(D(4)))", ()))

    def test_parts_side_by_side(self):
        document = Document(SIDE, "K", "pz4")
        self.assertEqual(document.edited(2, 0, "!").broken, (((0,), "z!"),))
        self.assertEqual(document.edited(2, 1, "").broken, (((1, 0), ""),))
        self.assertEqual(document.edited(2, 1, "!").broken, (((1, 0), "!"),))
        broken = document.edited(1, 1, "")
        self.assertEqual(told(broken), ("p4", "P(_, D(4))", (((0,), ""),)))
        # The hole before the digit comes first.
        self.assertEqual(broken.edited(1, 0, "s").broken, (((0,), "s"),))
        self.assertEqual(told(broken.edited(1, 0, "z")), ("pz4", "P(Z, D(4))", ()))

    def test_a_digit_that_is_edited(self):
        document = Document(ODD, "K", "7aeb3")
        self.assertEqual(document.edited(0, 1, "").broken, (((2,), ""),))
        self.assertEqual(document.edited(0, 1, "45").broken, (((2,), "45"),))
        self.assertEqual(told(document.edited(0, 1, "5")), ("5aeb3", "Both(3, End, 5)", ()))
        both = typed(document, (4, 1, ""), (0, 1, "x"))
        self.assertEqual(both.broken, (((2,), "x"), ((0,), "")))
        self.assertEqual(told(both.edited(4, 0, "9")), ("xaeb9", "Both(9, End, _)", (((2,), "x"),)))

    def test_broken_parts_in_the_order_of_the_wording(self):
        document = typed(Document(ODD, "K", "<.,e>"), (3, 1, "!"), (1, 1, ""))
        self.assertEqual(told(document), ("<,!>", "Swap(_, _)", (((1,), ""), ((0,), "!"))))

    def test_errors_in_their_order(self):
        document = lang("(z+3)")
        for at in (-1, 6, 99):
            self.raises(BadIndex, document.edited, at, 99, "x" * 99, index=at)
        for at, removed in ((0, -1), (0, 6), (5, 1), (3, 3)):
            self.raises(BadCount, document.edited, at, removed, "x" * 99, count=removed)
        self.raises(LimitExceeded, document.edited, 5, 0, "x" * 46, limit="text")
        self.assertEqual(len(document.edited(5, 0, "x" * 45).wording), 50)
        self.assertEqual(len(document.edited(0, 5, "x" * 50).wording), 50)
        self.raises(LimitExceeded, document.edited, 0, 5, "x" * 51, limit="text")

    def test_nothing_of_the_old_document_changes(self):
        document = typed(lang("((z+z)+z)"), (2, 1, "!"), (7, 1, "?"))
        before = told(document), document.skeleton
        for at in range(10):
            document.edited(at, 0, "z")
            document.put_at((0,), read("Nil"))
            self.assertEqual((told(document), document.skeleton), before)


class PutAtTest(unittest.TestCase, Raises):
    def test_at_right_places(self):
        document = lang("(z+3)")
        for path, part, wording in (((), "Nil", "z"), ((0,), "Neg(Nil)", "(-z+3)"), ((1,), "Nil", "(z+z)"), ((1, 0), "4", "(z+4)")):
            new = document.put_at(path, read(part))
            self.assertEqual((new.wording, new.right, new.skeleton), (wording, True, document.skeleton.exchanged(path, read(part))))
        self.assertEqual(told(document.put_at((0,), read("Nil"))), told(document))

    def test_at_holes_and_above_broken_parts(self):
        document = typed(lang("((z+z)+z)"), (2, 1, "!"), (7, 1, "?"))
        self.assertEqual(told(document.put_at((0, 0), read("Num(4)"))), ("((4+z)+?)", "Add(Add(Num(4), Nil), _)", (((1,), "?"),)))
        self.assertEqual(told(document.put_at((0,), read("Nil"))), ("(z+?)", "Add(Nil, _)", (((1,), "?"),)))
        self.assertEqual(told(document.put_at((0, 1), read("Neg(Nil)"))),
                         ("((!+-z)+?)", "Add(Add(_, Neg(Nil)), _)", (((0, 0), "!"), ((1,), "?"))))
        self.assertEqual(told(document.put_at((), read("Nil"))), ("z", "Nil", ()))
        self.assertEqual(told(document.put_at((0, 0), read("Nil")).put_at((1,), read("Nil"))), ("((z+z)+z)", "Add(Add(Nil, Nil), Nil)", ()))
        self.assertEqual(told(lang("???").put_at((), read("Nil"))), ("z", "Nil", ()))

    def test_right_by_chance(self):
        # s and z are both broken: the first one as unfinished, the second one behind it.
        table = Table.read("table t\nK: P K L = (12)\nK: Z = z\nK: Y = y\nL: A = a\nL: B K = b1")
        document = typed(Document(table, "K", "(za)"), (2, 1, "x"), (1, 1, ""))
        self.assertEqual(told(document), ("(x)", "P(_, _)", (((0,), ""), ((1,), "x"))))
        self.assertEqual(told(document.put_at((1,), read("A"))), ("(a)", "P(_, A)", (((0,), ""),)))
        broken = typed(Document(SIDE, "K", "pz4"), (2, 1, "?"), (1, 1, "zs"))
        self.assertEqual(broken.broken, (((0,), "zs"), ((1, 0), "?")))
        new = broken.put_at((1, 0), read("4"))
        self.assertEqual(told(new), ("pzs4", "P(Z, S(D(4)))", ()))

    def test_errors_in_their_order(self):
        document = typed(lang("((z+z)+3)"), (2, 1, "!"))
        large = read("Neg(" * 55 + "Nil" + ")" * 55)
        for path in ((2,), (0, 0, 0), (1, 0, 0), (-1,)):
            self.raises(NoPlace, document.put_at, path, read("Foo"), path=path)
        self.raises(WrongTree, document.put_at, (0,), read("Add(Nil, Num(_))"), path=(1, 0))
        self.raises(WrongTree, document.put_at, (0, 0), read("4"), path=())
        self.raises(WrongTree, document.put_at, (1, 0), read("Nil"), path=())
        self.raises(WrongTree, document.put_at, (0, 0), read("_"), path=())
        self.raises(LimitExceeded, document.put_at, (0, 0), large, limit="text")
        self.raises(LimitExceeded, document.put_at, (), large, limit="text")
        self.assertEqual(document.put_at((), read("Neg(" * 49 + "Nil" + ")" * 49)).wording, "-" * 49 + "z")


class SpanTest(unittest.TestCase, Raises):
    def test_spans(self):
        document = typed(lang("((z+z)+3)"), (2, 1, "!??"), (8, 0, "-"))
        self.assertEqual((document.wording, document.skeleton.term), ("((!??+z)-+3)", "Add(_, Num(3))"))
        self.assertEqual([document.span_of(path) for path in ((), (0,), (1,))], [(0, 12), (1, 9), (10, 11)])
        document = typed(lang("((z+z)+3)"), (2, 1, "!??"), (4, 1, ""))
        self.assertEqual((document.wording, document.skeleton.term), ("((!?+z)+3)", "Add(Add(_, Nil), Num(3))"))
        for path, span in (((), (0, 10)), ((0,), (1, 7)), ((0, 0), (2, 4)), ((0, 1), (5, 6)), ((1,), (8, 9)), ((1, 0), (8, 9))):
            self.assertEqual(document.span_of(path), span)
        for path in ((2,), (0, 0, 0), (1, 0, 0), (-1,)):
            self.raises(NoPlace, document.span_of, path, path=path)
        self.assertEqual(lang("").span_of(()), (0, 0))
        self.assertEqual(lang("x y").span_of(()), (0, 3))


class RandomTest(unittest.TestCase):
    def random_edit(self, rng, document, signs):
        length = len(document.wording)
        at = rng.randint(0, length)
        removed = min(rng.choice([0, 0, 1, 1, 1, 1, 1, 1, 1, 2, 5]), length - at)
        added = "".join(rng.choice(signs) for _ in range(rng.choice([0, 1, 1, 1, 1, 2])))
        return at, removed, added[:max(0, 50 - length + removed)]

    def test_against_the_slow_way(self):
        counts = Counter()
        tables = [*TABLES, ODD, SIDE]
        trees = [right_trees(table, 8, "5") for table in tables]
        for seed in range(600):
            rng = Random(seed)
            table = tables[seed % 6]
            kind = rng.choice(table.kinds)
            tree = rng.choice(trees[seed % 6][kind][-60:])
            document, slow = Document(table, kind, text_of(table, tree)), Slow.of(table, kind, text_of(table, tree))
            signs = sorted({sign for maker in table for sign in maker.form if not sign.isdigit()}) + ["5", "6", "!", " ", "A"]
            for _ in range(5):
                edit = self.random_edit(rng, document, signs)
                document, slow = document.edited(*edit), slow.edited(*edit)
                self.compare(document, slow)
                counts[len(document.broken)] += 1
                if rng.random() < 0.3:
                    document, slow = self.with_part(rng, document, slow)
                    self.compare(document, slow)
        self.assertTrue(all(counts[many] > 100 for many in (0, 1, 2)), counts)

    def with_part(self, rng, document, slow):
        path = rng.choice(list(document.skeleton.paths()))
        due = document.kind
        for depth, at in enumerate(path):
            due = document.table.maker(document.skeleton[path[:depth]].name).wants[at]
        part = document.table.least(due)
        new = document.put_at(path, part)
        slow = slow.put(path, Slow.opened(document.table, part))
        if new.right:
            slow = Slow.of(document.table, document.kind, new.wording)
        return new, slow

    def compare(self, document, slow):
        self.assertEqual(document.wording, slow.text(slow.tree))
        self.assertEqual(document.skeleton, slow.skeleton(slow.tree))
        self.assertEqual(document.known, slow.known(slow.tree, slow.kind))
        self.assertEqual(list(document.broken), slow.broken(slow.tree))
        self.assertEqual(document.right, is_right(document.table, document.kind, document.wording))
        self.assertEqual(document.right, not document.broken)
        for path, raw in document.broken:
            start, end = document.span_of(path)
            self.assertEqual(document.wording[start:end], raw)

    def test_fitting_trees(self):
        for seed in range(60):
            rng = Random(seed)
            document = lang(text_of(LANG, rng.choice(right_trees(LANG, 6, "5")["Expr"])))
            for _ in range(3):
                document = document.edited(*self.random_edit(rng, document, list("(-+z)5!")))
            for tree in right_trees(LANG, 6, "5")["Expr"][::7]:
                fits = document.skeleton.covers(tree)
                for path, raw in document.broken if fits else []:
                    due = "digit" if document.skeleton[path[:-1]].name == "Num" else "Expr"
                    if is_beginning(LANG, due, raw):
                        fits = fits and text_of(LANG, tree[path]).startswith(raw)
                self.assertEqual(document.known.covers(tree), fits)


if __name__ == "__main__":
    unittest.main()
