"""Results stage by stage for trees of a store, each worked out only once (points 16 and 48)."""

from treeworks.onwards import fitting_row
from treeworks.rows import calls_of
from treeworks.stores import stored_tree
from treeworks.tables import DIGIT
from treeworks.unfolding import put_in


class Results:
    """Holds whole trees and the results of the states of some stages for them."""

    def __init__(self, store, stages):
        self._store = store
        self._stages = stages
        self._terms = [{} for _ in stages]
        self._known = [{} for _ in stages]
        self._small = [{} for _ in stages]

    def numbered(self, tree):
        """The number of a whole tree."""
        return stored_tree(self._store, tree, ())

    def terms(self, at, number):
        """The terms of the looks of the stage with this index that cover a tree."""
        known = self._terms[at]
        stage = self._stages[at]
        waiting = [number]
        while waiting:
            part = waiting[-1]
            kids = self._store.kids[part]
            missing = [kid for kid in kids if kid not in known]
            waiting.extend(missing)
            if not missing:
                waiting.pop()
                name = self._store.names[part]
                inner = [known[kid] for kid in kids]
                is_node = name in stage.source
                known[part] = stage.sights.node_mark(stage.source.maker(name), inner) if is_node else ()
        return known[number]

    def result(self, at, state, number):
        """The number of the result of a state of the stage with this index for a tree."""
        known = self._known[at]
        waiting = [(number, state)]
        while waiting:
            part, name = waiting[-1]
            row = self._row(at, name, part)
            bound = dict(zip(row.variables, self._store.kids[part]))
            missing = []
            for other, variable in calls_of(row.template):
                if (bound[variable], other) not in known:
                    missing.append((bound[variable], other))
            waiting.extend(missing)
            if not missing:
                waiting.pop()
                known[(part, name)] = put_in(self._store, row.template, bound, known)
        return known[(number, state)]

    def _row(self, at, state, number):
        """The row that a state uses for a tree."""
        stage = self._stages[at]
        seen = [self.terms(at, kid) for kid in self._store.kids[number]]
        return fitting_row(stage.named(state), self._store.names[number], seen)

    def are_small(self, at, number):
        """True if no result of states for a tree, stage by stage from the one with this index on, is too large."""
        if at == len(self._stages):
            return True
        if number not in self._small[at]:
            kind = self._stages[at].source.maker(self._store.names[number]).kind
            small = True
            for state in self._stages[at].states:
                if small and state.takes == kind and state.gives != DIGIT:
                    result = self.result(at, state.name, number)
                    small = not self._store.is_large(result) and self.are_small(at + 1, result)
            self._small[at][number] = small
        return self._small[at][number]

    def last_result(self, number):
        """The number of the result of all stages for a tree, or None if a result on the way is too large."""
        for at, stage in enumerate(self._stages):
            number = self.result(at, stage.start, number)
            if self._store.is_large(number):
                return None
        return number
