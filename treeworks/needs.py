"""Which holes of a tree are needed (point 41)."""

from treeworks.algebras import combined
from treeworks.errors import BadCount, LimitExceeded
from treeworks.hunts import part_with_other_name
from treeworks.likeness import Likeness
from treeworks.parts import Parts
from treeworks.stores import numbers_in
from treeworks.tours import Tour, read_mark

MOST_HOLES = 3
MOST_CHOICES = 1000


class Needs:
    """The outlines of a tree for all choices of lots for its holes, and what they tell of the single holes."""

    def __init__(self, sure, tree):
        parts = Parts(sure.pipeline.source, sure.walk.choices)
        numbers = parts.placed(tree, sure.pipeline.takes, apart=True)
        kinds = [parts.kinds[number] for number in numbers if parts.is_gap(number)]
        if len(kinds) > MOST_HOLES:
            raise BadCount(len(kinds))
        choices = 1
        for kind in kinds:
            choices = choices * sure.walk.lots.many(kind)
        if choices > MOST_CHOICES:
            raise LimitExceeded("choices")
        tour = Tour(sure.walk, sure, parts)
        self.kinds = kinds
        self.outlines = {}
        for lots in combined([list(sure.walk.choices.all_lots(kind)) for kind in kinds]):
            self.outlines[lots] = tour.result(numbers[0], sure.pipeline.start, lots)
        if any([tour.store.is_large(number) for number in list(self.outlines.values())]):
            raise LimitExceeded("result")
        self._sure = sure
        self._store = tour.store
        self._likeness = Likeness(sure, tour)

    def witness(self, index, place):
        """Two lists of parts for the holes that differ only at the hole with this index, and lead to different results.

        Only what stands at a place is looked at, which all outlines have. None if there are no such lists.
        """
        numbers = {lots: self._store.descended(self.outlines[lots], place)[0] for lots in self.outlines}
        for lots in numbers:
            mark = self._mark_of(index, numbers[lots])
            if mark is not None:
                return self._by_mark(index, lots, mark)
        firsts = {}
        compared = {}
        for lots in numbers:
            others = (*lots[:index], *lots[index + 1:])
            first = firsts.setdefault(others, lots)
            key = (others, numbers[first], numbers[lots])
            if numbers[first] == numbers[lots] or key in compared:
                continue
            compared[key] = True
            parts = self._likeness.told_apart(numbers[first], numbers[lots], self.kinds, lots)
            if parts is not None:
                return self._with(parts, index, first[index]), self._with(parts, index, lots[index])
        return None

    def _mark_of(self, index, number):
        """The name of a mark for a hole, or None if there is none."""
        for part in numbers_in(self._store, number):
            if self._store.is_open(part) and self._store.index_of(part) == index:
                return self._store.names[part]
        return None

    def _by_mark(self, index, lots, mark):
        """Two lists of parts of these lots for which there are different names at the mark."""
        word, path = read_mark(mark)
        first, name = part_with_other_name(self._sure, word, lots[index], path, None)
        second = part_with_other_name(self._sure, word, lots[index], path, name)[0]
        parts = [self._sure.walk.lots.least(kind, lot) for kind, lot in zip(self.kinds, lots)]
        return [*parts[:index], first, *parts[index + 1:]], [*parts[:index], second, *parts[index + 1:]]

    def _with(self, parts, index, lot):
        """The parts with the least tree of a lot at an index."""
        least = self._sure.walk.lots.least(self.kinds[index], lot)
        return [*parts[:index], least, *parts[index + 1:]]
