"""The parts of trees with holes by numbers, and the lots that they can have."""

from treeworks.algebras import combined
from treeworks.names import is_digit
from treeworks.tables import DIGIT
from treeworks.trees import HOLE, inner_numbers, is_hole, places


class Choices:
    """Which lots of the parts lead to which lots of a node."""

    def __init__(self, lots):
        self._lots = lots
        self._known = {}
        self._made = {}

    def all_lots(self, kind):
        """The tuple of all lots of a kind."""
        return tuple(range(self._lots.many(kind)))

    def leading(self, name, possible):
        """For each lot of a node, the list of the tuples of lots of its parts; `possible` has a tuple for each part."""
        key = (name, possible)
        if key not in self._known:
            found = {}
            for chosen in combined(possible):
                found.setdefault(self._lots.next_lot(name, chosen), []).append(chosen)
            self._known[key] = found
        return self._known[key]

    def made(self, kind):
        """For each lot of a kind, the list of the pairs of a maker and the lots of its parts that lead to it."""
        if kind not in self._made:
            found = {lot: [] for lot in self.all_lots(kind)}
            for maker in self._lots.table.makers(kind):
                by_lot = self.leading(maker.name, tuple([self.all_lots(want) for want in maker.wants]))
                for lot in by_lot:
                    found[lot].extend([(maker, chosen) for chosen in by_lot[lot]])
            self._made[kind] = found
        return self._made[kind]

    def least_parts(self, maker, lots):
        """The least trees of lots of the parts of a maker."""
        return [self._lots.least(want, lot) for want, lot in zip(maker.wants, lots)]


class Parts:
    """Holds parts of trees: equal ones have the same number, and parts have lower numbers than what is above them.

    For each number there are the maker (None for digits and holes), the name, the numbers of the parts, the kind, how
    many holes are in it, the index of the first of these (0 if there is none), the tuple of the possible lots, and for
    each of these lots the possible choices of lots of parts.
    """

    def __init__(self, table, choices):
        self.heads = []
        self.names = []
        self.kids = []
        self.kinds = []
        self.gaps = []
        self.firsts = []
        self.lots = []
        self.choices = []
        self._table = table
        self._choices = choices
        self._numbers = {}

    def hole(self, kind, index):
        """The number of a hole where this kind is due; holes with different indexes are kept apart."""
        key = (HOLE, kind, index)
        if key not in self._numbers:
            lots = self._choices.all_lots(kind)
            self._add(key, None, (), kind, {lot: [()] for lot in lots})
            self.gaps.append(1)
            self.firsts.append(index)
        return self._numbers[key]

    def node(self, name, kids):
        """The number of a node of a maker, or of a digit."""
        key = (name, kids)
        if key not in self._numbers:
            maker = None if is_digit(name) else self._table.maker(name)
            kind = DIGIT if maker is None else maker.kind
            leading = self._choices.leading(name, tuple([self.lots[kid] for kid in kids]))
            self._add(key, maker, kids, kind, leading)
            self.gaps.append(sum([self.gaps[kid] for kid in kids]))
            firsts = [self.firsts[kid] for kid in kids if self.gaps[kid] > 0]
            self.firsts.append(firsts[0] if firsts else 0)
        return self._numbers[key]

    def _add(self, key, maker, kids, kind, choices):
        self._numbers[key] = len(self.names)
        self.heads.append(maker)
        self.names.append(key[0])
        self.kids.append(kids)
        self.kinds.append(kind)
        self.lots.append(tuple(sorted([int(lot) for lot in choices])))
        self.choices.append(choices)

    def is_gap(self, number):
        """True if a hole has this number."""
        return self.gaps[number] == 1 and not self.kids[number]

    def placed(self, tree, kind, *, apart):
        """The list of the numbers of all places of a tree, in reading order; with or without holes kept apart."""
        found = places(tree)
        inner = inner_numbers(found)
        dues = self._dues(found, inner, kind)
        numbers = [0 for _ in found]
        left = len([part for _, part in found if is_hole(part)])
        for at in reversed(range(len(found))):
            part = found[at][1]
            if is_hole(part):
                left -= 1
                numbers[at] = self.hole(dues[at], left if apart else 0)
            else:
                numbers[at] = self.node(part.name, tuple([numbers[kid] for kid in inner[at]]))
        return numbers

    def _dues(self, found, inner, kind):
        """The kind that is due at each place."""
        dues = [kind for _ in found]
        for at, (_, part) in enumerate(found):
            if inner[at]:
                for kid, want in zip(inner[at], self._table.maker(part.name).wants):
                    dues[kid] = want
        return dues

    def exchanged(self, number, path, part):
        """The number of the tree in which the part with another number stands at the path."""
        above = [number]
        for at in path:
            above.append(self.kids[above[-1]][at])
        for depth in reversed(range(len(path))):
            kids = list(self.kids[above[depth]])
            kids[path[depth]] = part
            part = self.node(self.names[above[depth]], tuple(kids))
        return part
