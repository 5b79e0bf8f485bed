"""Finding sure results upwards, from the sure lines at the holes (point 39)."""

from treeworks.errors import LimitExceeded
from treeworks.parts import Parts
from treeworks.stores import Meeting, Store, stored_tree
from treeworks.tables import DIGIT


class Upwards:
    """Finds the sure results of one pipeline for trees with holes, which are held in its store.

    What was found for a part of one tree serves for the others, too.
    """

    def __init__(self, sure):
        self.store = Store()
        self.parts = Parts(sure.pipeline.source, sure.walk.choices)
        self._sure = sure
        self._meeting = Meeting(self.store)
        self._results = {}

    def numbered(self, tree):
        """The number of a right tree with holes, as a part."""
        return self.parts.placed(tree, self._sure.pipeline.takes, apart=False)[0]

    def result(self, part):
        """The number of the sure result for the whole tree with this number."""
        found = []
        for lot in self.parts.lots[part]:
            found.append(self.met(part, self._sure.pipeline.start, lot))
        return self._common(found)

    def met(self, part, word, lot):
        """The number of the common part of the results of a word for a part, as far as it has this lot."""
        key = (part, word, lot)
        if key not in self._results:
            if self.parts.is_gap(part):
                line = stored_tree(self.store, self._sure.sure_line(word, lot), ())
                self._results[key] = self._checked(line)
            else:
                self._results[key] = self._met_at_node(part, word, lot)
        return self._results[key]

    def _met_at_node(self, part, word, lot):
        """The common part of the trees of all choices of lots of the parts."""
        kids = self.parts.kids[part]
        found = []
        tried = {}
        for lots in self.parts.choices[part][lot]:
            plan = self._sure.walk.unfolder.plan(word, self.parts.heads[part], lots)
            leaves = []
            for _, inner, index in plan.leaves:
                if inner == DIGIT:
                    # A known digit, or a hole.
                    leaves.append(self.store.node(self.parts.names[kids[index]], ()))
                else:
                    leaves.append(self.met(kids[index], inner, lots[index]))
            # Many choices lead to the same tree.
            key = (plan.top, tuple(leaves))
            if key not in tried:
                tried[key] = True
                found.append(self._checked(plan.put_into(self.store, leaves)))
        return self._common(found)

    def _checked(self, number):
        """The number itself, if a result may be so large."""
        if self.store.is_large(number):
            raise LimitExceeded("result")
        return number

    def _common(self, numbers):
        common = numbers[0]
        for number in numbers:
            common = self._meeting.common(common, number)
        return common
