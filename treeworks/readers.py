"""Reading a text sign by sign (points 12 and 13)."""

from treeworks.names import DIGITS, is_digit
from treeworks.tables import DIGIT
from treeworks.trees import HOLE, Tree


class Bud:
    """A node or a digit of the tree that is being read."""

    def __init__(self, name, form, wants, level):
        self.name = name
        self.form = form
        self.wants = wants
        self.level = level
        self.place = 0
        self.below = [None for _ in wants]

    def due(self):
        """The sign or the kind that comes next."""
        sign = self.form[self.place]
        return self.wants[int(sign) - 1] if is_digit(sign) else sign

    def dues(self):
        """The signs and kinds that are still to come."""
        return [self.wants[int(sign) - 1] if is_digit(sign) else sign for sign in self.form[self.place:]]


class Reader:
    """A text of a kind on its way; the method `take` reads one sign more."""

    def __init__(self, table, kind):
        self.deepest = 0
        self._kind = kind
        self._starters = starters_of(table)
        self._top = None
        # Only nodes of which something is still to come, the innermost last.
        self._waiting = []

    def due(self):
        """The sign or the kind that comes next, or the empty string behind a whole text."""
        if self._waiting:
            return self._waiting[-1].due()
        return self._kind if self._top is None else ""

    def dues(self):
        """The list of the signs and kinds that are still to come."""
        if self._top is None:
            return [self._kind]
        return [due for bud in reversed(list(self._waiting)) for due in bud.dues()]

    def next_signs(self):
        """The signs with which the text can go on, in ascending order."""
        due = self.due()
        if due in self._starters:
            return "".join(sorted([str(sign) for sign in self._starters[due]]))
        return due

    def take(self, sign):
        """Reads a sign and returns True, or returns False if the text cannot go on with it."""
        due = self.due()
        if due not in self._starters:
            if sign != due:
                return False
            self._advance()
            return True
        if sign not in self._starters[due]:
            return False
        self._begin(self._starters[due][sign], sign)
        return True

    def _begin(self, maker, sign):
        if maker is None:
            self._put(sign, "", ())
            return
        self._put(maker.name, maker.form, maker.wants)
        if is_digit(maker.form[0]):
            self._put(sign, "", ())
        else:
            self._advance()

    def _put(self, name, form, wants):
        """Puts a node or a digit at the place that is due."""
        if self._top is None:
            bud = Bud(name, form, wants, 1)
            self._top = bud
        else:
            above = self._waiting[-1]
            bud = Bud(name, form, wants, above.level + 1)
            above.below[int(above.form[above.place]) - 1] = bud
            self._advance()
        if bud.level > self.deepest:
            self.deepest = bud.level
        if form:
            self._waiting.append(bud)

    def _advance(self):
        bud = self._waiting[-1]
        bud.place += 1
        if bud.place == len(bud.form):
            self._waiting.pop()

    def so_far(self):
        """The tree as far as it is known."""
        return tree_of(self._top)


def tree_of(bud):
    """The tree of a node that is being read, with a hole for everything that is not known."""
    if bud is None:
        return Tree(HOLE)
    parts = [tree_of(part) for part in bud.below]
    return Tree(bud.name, *parts)


def starters_of(table):
    """For each kind the signs with which a text begins, with the maker that begins so; None for digits alone."""
    starters = {kind: {} for kind in table.kinds}
    for maker in table:
        signs = DIGITS if is_digit(maker.form[0]) else maker.form[0]
        for sign in signs:
            starters[maker.kind][sign] = maker
    starters[DIGIT] = {sign: None for sign in DIGITS}
    return starters


def shortest_texts(table):
    """The shortest text of each kind, among several the first in ascending order."""
    found = {DIGIT: DIGITS[0]}
    while len(found) <= len(table.kinds):
        best = None
        for maker in table:
            if maker.kind in found or not all([want in found for want in maker.wants]):
                continue
            signs = [found[maker.wants[int(sign) - 1]] if is_digit(sign) else sign for sign in maker.form]
            text = "".join(signs)
            # A text is not shorter than those in it, so the first one of all open kinds is the first of its kind.
            if best is None or (len(text), text) < (len(best[1]), best[1]):
                best = (maker.kind, text)
        found[best[0]] = best[1]
    return found
