"""The lots of pipelines: trees with the same lot are seen alike, and so are their results (points 27 and 35)."""

from treeworks.algebras import LotTable
from treeworks.rows import is_call, is_variable
from treeworks.tables import DIGIT
from treeworks.trees import HOLE, is_hole


class Onward:
    """What a stage sees of trees, and the lots of its results, as a rule for a `LotTable`.

    The mark of a tree is a pair: the terms of the looks that cover it, and a tuple of pairs of a state and the lot of
    its result. `behind` has the lots of what comes behind the stage, None if nothing does. What is known of a digit
    stands under the word for digits, as the lot of the digit itself.
    """

    def __init__(self, stage, behind):
        self.stage = stage
        self.behind = behind

    def digit_mark(self, digit):
        """The mark of a digit."""
        if self.behind is None:
            return (), ()
        return (), ((DIGIT, self.behind.next_lot(digit, ())),)

    def node_mark(self, maker, marks):
        """The mark of a node whose parts have these marks."""
        seen = [mark[0] for mark in marks]
        sights = self.stage.sights.node_mark(maker, seen)
        if self.behind is None:
            return sights, ()
        results = [dict(mark[1]) for mark in marks]
        pairs = []
        for state in self.stage.states:
            if state.takes == maker.kind:
                row = fitting_row(state, maker.name, seen)
                bound = dict(zip(row.variables, results))
                pairs.append((state.name, lot_of_template(self.behind, row.template, bound)))
        return sights, tuple(pairs)


def fitting_row(state, name, seen):
    """The first row of the state that suits a node of this name, if these terms of looks cover its parts."""
    for row in state.rows:
        if row.head == HOLE:
            return row
        if row.head == name:
            if all([is_hole(guard) or guard.term in terms for guard, terms in zip(row.guards, seen)]):
                return row
    return None


def lot_of_template(lots, template, bound):
    """The lot of a template, where `bound` has for each variable the lots of the results for its part."""
    if is_call(template):
        return bound[template.parts[0].name][template.name]
    if is_variable(template):
        return bound[template.name][DIGIT]
    return lots.next_lot(template.name, tuple([lot_of_template(lots, part, bound) for part in template.parts]))


def lot_tables(stages, behind):
    """The lots for all of these stages, for all but the first one, and so on; behind the last one come these lots."""
    tables = []
    for stage in reversed(list(stages)):
        behind = LotTable(stage.source, Onward(stage, behind))
        tables.append(behind)
    return tables[::-1]
