"""Rules for the lots of sets of trees (points 32 to 34); for rules see `LotTable`."""

from treeworks.tables import DIGIT
from treeworks.trees import inner_numbers, is_hole, places


class EveryRule:
    """All trees of a kind are alike."""

    def digit_mark(self, digit):
        """The mark of a digit."""
        return 0

    def node_mark(self, maker, marks):
        """The mark of a node."""
        return 0


class CoverRule:
    """A mark is a pair: the terms of those parts of a pattern that cover the tree, and True if one of the trees in it,
    the tree itself included, is covered by the whole pattern. Without `deep` the second one is always False.
    """

    def __init__(self, pattern, deep):
        self.looks = [part for _, part in places(pattern)]
        self.pattern = pattern
        self.deep = deep

    def digit_mark(self, digit):
        """The mark of a digit, which nothing covers."""
        return (), False

    def node_mark(self, maker, marks):
        """The mark of a node whose parts have these marks."""
        seen = []
        for look in self.looks:
            if look.name == maker.name and covers_parts(look, marks):
                seen.append(look.term)
        found = self.pattern.term in seen or any([mark[1] for mark in marks])
        return tuple(seen), self.deep and found


class SingleRule:
    """Each part of a tree is alike only to itself, and all other trees of a kind are alike.

    The mark of a part is a number from 1 on, that of all other trees 0.
    """

    def __init__(self, tree):
        found = places(tree)
        inner = inner_numbers(found)
        marks = [0 for _ in found]
        self.numbers = {}
        for at in reversed(range(len(found))):
            key = (found[at][1].name, tuple([marks[kid] for kid in inner[at]]))
            if key not in self.numbers:
                self.numbers[key] = len(self.numbers) + 1
            marks[at] = self.numbers[key]

    def digit_mark(self, digit):
        """The number of a digit."""
        return self.numbers.get((digit, ()), 0)

    def node_mark(self, maker, marks):
        """The number of a node whose parts have these marks."""
        return self.numbers.get((maker.name, tuple(marks)), 0)


class PairRule:
    """Trees are alike if they have the same lots of two tables."""

    def __init__(self, first, second):
        self.first = first
        self.second = second

    def digit_mark(self, digit):
        """The pair of the lots of a digit."""
        return self.first.next_lot(digit, ()), self.second.next_lot(digit, ())

    def node_mark(self, maker, marks):
        """The pair of the lots of a node."""
        firsts = tuple([mark[0] for mark in marks])
        seconds = tuple([mark[1] for mark in marks])
        return self.first.next_lot(maker.name, firsts), self.second.next_lot(maker.name, seconds)


class BlockRule:
    """Trees are alike if their lots of a table are in the same block.

    `blocks` has for each pair of a kind and a lot the first lot of its block, which stands for the others.
    """

    def __init__(self, lots, blocks):
        self.lots = lots
        self.blocks = blocks

    def digit_mark(self, digit):
        """The block of a digit."""
        return self.blocks[(DIGIT, self.lots.next_lot(digit, ()))]

    def node_mark(self, maker, marks):
        """The block of a node whose parts are in these blocks."""
        return self.blocks[(maker.kind, self.lots.next_lot(maker.name, tuple(marks)))]


def covers_parts(look, marks):
    """True if the parts of a look cover the parts with these marks."""
    return all([is_hole(part) or part.term in mark[0] for part, mark in zip(look.parts, marks)])
