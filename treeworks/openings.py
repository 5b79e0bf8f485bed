"""Looking for fillings of a tree for which the result has another name at a place (point 38)."""

from treeworks.hunts import looked_up, other_digit, part_with_other_name
from treeworks.parts import Parts
from treeworks.tables import DIGIT


class Openings:
    """Looks for fillings of a tree with holes, by the number of steps downwards from the top.

    A step is a tuple of the number of a part, a word, a lot and a path of the result; for each one that was reached
    there is kept how: the step before it, the lots of the parts there, and the index of the part.
    """

    def __init__(self, sure, tree):
        self._sure = sure
        self._parts = Parts(sure.pipeline.source, sure.walk.choices)
        self._top = self._parts.placed(tree, sure.pipeline.takes, apart=True)[0]

    def parting(self, place):
        """Two lists of parts for the holes with which there are different names at a hole of the sure result."""
        first, name = self.found(place, None)
        return first, self.found(place, name)[0]

    def found(self, place, avoided):
        """A pair of a list of parts for the holes and of the name at the place of the result, which is not avoided.

        None if all fillings lead to the avoided name.
        """
        starts = [(self._top, self._sure.pipeline.start, lot, place) for lot in self._parts.lots[self._top]]
        came = {start: None for start in starts}
        waiting = list(starts)
        at = 0
        while at < len(waiting):
            step = waiting[at]
            at += 1
            if self._parts.is_gap(step[0]):
                part = part_with_other_name(self._sure, step[1], step[2], step[3], avoided)
                if part is not None:
                    return self._filled(came, step, {self._parts.firsts[step[0]]: part[0]}), part[1]
                continue
            for lots in self._parts.choices[step[0]][step[2]]:
                answer = self._tried(came, waiting, step, lots, avoided)
                if answer is not None:
                    return answer
        return None

    def _tried(self, came, waiting, step, lots, avoided):
        """The answer, if a choice of lots of the parts leads to one; otherwise the step that it leads to is noted."""
        maker = self._parts.heads[step[0]]
        name, index, rest = looked_up(self._sure.walk, step[1], step[3], maker, lots)
        given = {}
        if index is not None:
            kid = self._parts.kids[step[0]][index]
            if name != DIGIT:
                inner = (kid, name, lots[index], rest)
                if inner not in came:
                    came[inner] = (step, lots, index)
                    waiting.append(inner)
                return None
            name = self._parts.names[kid]
            if self._parts.is_gap(kid):
                given[self._parts.firsts[kid]], name = other_digit(avoided)
        if name == avoided:
            return None
        for kid, lot in zip(self._parts.kids[step[0]], lots):
            self._fill(kid, lot, given)
        return self._filled(came, step, given), name

    def _filled(self, came, step, given):
        """The list of parts for all holes, if the steps to this one are gone, and these are given behind it."""
        while came[step] is not None:
            before, lots, index = came[step]
            for at, kid in enumerate(self._parts.kids[before[0]]):
                if at != index:
                    self._fill(kid, lots[at], given)
            step = before
        return [given[at] for at in range(self._parts.gaps[self._top])]

    def _fill(self, part, lot, given):
        """Gives least trees to those holes of a part that have none yet, such that the part has the lot."""
        waiting = [(part, lot)]
        while waiting:
            here, wanted = waiting.pop()
            if self._parts.is_gap(here):
                least = self._sure.walk.lots.least(self._parts.kinds[here], wanted)
                given.setdefault(self._parts.firsts[here], least)
            elif self._parts.gaps[here] > 0:
                lots = self._parts.choices[here][wanted][0]
                waiting.extend(list(zip(self._parts.kids[here], lots)))
