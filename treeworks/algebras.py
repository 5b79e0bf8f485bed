"""Lots of trees (point 27), as they arise from the lots of their parts."""

from treeworks.errors import BadCount, BadIndex, LimitExceeded, Unknown
from treeworks.names import DIGITS, is_digit
from treeworks.tables import DIGIT, top_kind
from treeworks.trees import Tree

MOST_LOTS = 30


class LotTable:
    """The lots of all kinds of a table.

    Trees of one kind have the same lot if the rule gives them the same mark. A rule has two methods:
    `digit_mark(digit)` gives the mark of a digit, and `node_mark(maker, marks)` that of a node whose parts have
    these marks. Marks are integers, strings or tuples of such.
    """

    def __init__(self, table, rule):
        found, steps = grown_lots(table, rule)
        self.table = table
        kinds = (*table.kinds, DIGIT)
        self._marks = {kind: [lot[1] for lot in found if lot[0] == kind] for kind in kinds}
        self._least = {kind: [lot[2] for lot in found if lot[0] == kind] for kind in kinds}
        self._steps = numbered_steps(found, steps)

    def many(self, kind):
        """The number of lots of a kind."""
        if kind not in self._least:
            raise Unknown(kind)
        return len(self._least[kind])

    def least(self, kind, lot):
        """The least tree of a lot."""
        # The kind comes first, whatever the number is.
        many = self.many(kind)
        if not 0 <= lot < many:
            raise BadIndex(lot)
        return self._least[kind][lot]

    def step(self, name, *lots):
        """The lot of a node whose parts have these lots, or of a digit."""
        wants = () if is_digit(name) else self.table.maker(name).wants
        if len(lots) != len(wants):
            raise BadCount(len(lots))
        for want, lot in zip(wants, lots):
            if not 0 <= lot < self.many(want):
                raise BadIndex(lot)
        return self._steps[(name, lots)]

    def next_lot(self, name, lots):
        """As `step`, for a tuple of lots that is known to be right."""
        return self._steps[(name, lots)]

    def has_steps_of(self, other):
        """True if the steps of both tables lead to lots of the same numbers."""
        return self._steps == other._steps

    def mark(self, kind, lot):
        """The mark that the rule gives to the trees of a lot."""
        return self._marks[kind][lot]

    def lot(self, tree):
        """The lot of a right tree of some kind, or of a digit."""
        self.table.check(tree, top_kind(self.table, tree))
        return self.lot_of(tree)

    def lot_of(self, tree):
        """As `lot`, for a tree that is known to be right."""
        lots = [self.lot_of(part) for part in tree.parts]
        return self._steps[(tree.name, tuple(lots))]

    def lines(self):
        """A line for each lot of each kind."""
        kinds = list(self._least)
        return [line_of(kind, lot, tree) for kind in kinds for lot, tree in enumerate(self._least[kind])]


def line_of(kind, lot, tree):
    return f"{kind:<8}{lot:>4}  {tree.term}"


def grown_lots(table, rule):
    """The list of all lots, and the list of the steps that lead to them.

    A lot is a tuple of its kind, its mark and its least tree; the lots stand in ascending order of these trees.
    A step is a tuple of the name of a maker or a digit, the indexes of the lots of its parts, its kind and its mark.
    """
    found = []
    settled = {}
    steps = [(digit, (), DIGIT, rule.digit_mark(digit)) for digit in DIGITS]
    waiting = {(DIGIT, mark): Tree(digit) for digit, _, _, mark in reversed(list(steps))}
    fresh = [(maker, ()) for maker in table if not maker.wants]
    while True:
        for maker, chosen in fresh:
            mark = rule.node_mark(maker, [found[at][1] for at in chosen])
            steps.append((maker.name, chosen, maker.kind, mark))
            key = (maker.kind, mark)
            if key in settled:
                continue
            tree = node_of(maker.name, [found[at][2] for at in chosen])
            if key not in waiting or comes_first(tree, waiting[key]):
                waiting[key] = tree
        if many_of_nodes(settled) + many_of_nodes(waiting) > MOST_LOTS:
            raise LimitExceeded("lots")
        if not waiting:
            return found, steps
        # A node is greater than its parts, so nothing that arises later is less than the least tree that waits.
        key = least_key(waiting)
        if waiting[key] is None:
            raise LimitExceeded("lots")
        found.append((key[0], key[1], waiting[key]))
        settled[key] = True
        del waiting[key]
        fresh = [(maker, chosen) for maker in table for chosen in choices_with_last(maker.wants, found)]


def many_of_nodes(keys):
    """How many of these lots are not lots of digits."""
    return len([key for key in keys if key[0] != DIGIT])


def node_of(name, parts):
    """The node with these parts, or None if it has too many names."""
    size = 1 + sum([part.size for part in parts])
    return Tree(name, *parts) if size <= Tree.MOST_NAMES else None


def comes_first(tree, other):
    """True if the tree is less than the other one, where None is greater than every tree."""
    return tree is not None and (other is None or tree < other)


def least_key(waiting):
    """The key of the least tree."""
    least = None
    for key in waiting:
        if least is None or comes_first(waiting[key], waiting[least]):
            least = key
    return least


def choices_with_last(wants, found):
    """The tuples of indexes of lots of the wanted kinds in which the lot that was found last occurs."""
    last = len(found) - 1
    choices = []
    for place, want in enumerate(wants):
        if want == found[last][0]:
            # The place is the first one at which the last lot stands, so each tuple arises once.
            before = [indexes_of(other, found[:last]) for other in wants[:place]]
            behind = [indexes_of(other, found) for other in wants[place + 1:]]
            choices.extend(combined([*before, [last], *behind]))
    return choices


def indexes_of(kind, found):
    """The indexes of the lots of a kind."""
    return [at for at, lot in enumerate(found) if lot[0] == kind]


def combined(rows):
    """All tuples with one item of each row, in order."""
    chosen = [()]
    for row in rows:
        chosen = [(*start, item) for start in chosen for item in row]
    return chosen


def numbered_steps(found, steps):
    """The lots to which the steps lead, by the name and the lots of the parts, all numbered within their kinds."""
    numbers = []
    by_key = {}
    many = {}
    for kind, mark, _ in found:
        numbers.append(many.get(kind, 0))
        by_key[(kind, mark)] = many.get(kind, 0)
        many[kind] = many.get(kind, 0) + 1
    return {
        (name, tuple([numbers[at] for at in chosen])): by_key[(kind, mark)]
        for name, chosen, kind, mark in steps
    }
