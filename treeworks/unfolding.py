"""Unfolding words at nodes whose parts are known by their lots only (point 28)."""

from treeworks.errors import LimitExceeded
from treeworks.onwards import fitting_row
from treeworks.rows import calls_of, is_call, is_variable
from treeworks.stores import Plan, Store, numbers_in
from treeworks.tables import DIGIT

MOST_UNFOLDED = 50000
# The word for a part itself, before a state has been applied to it.
ITSELF = ""


class LotSights:
    """What stages see of the results of words, told from the tables of the lots from each stage on."""

    def __init__(self, stages, tables):
        self._stages = stages
        self._tables = tables
        self._led = {}

    def seen(self, at, word, kind, lot):
        """The terms of the looks of the stage with this index that cover the result of a word for a part of a lot."""
        key = (at, word, kind, lot)
        if key not in self._led:
            states = word.split(".") if word != ITSELF and word != DIGIT else []
            for depth, state in enumerate(states):
                lot = dict(self._tables[depth].mark(kind, lot)[1])[state]
                kind = self._stages[depth].named(state).gives
            self._led[key] = self._tables[at].mark(kind, lot)[0]
        return self._led[key]


class Unfolder:
    """Keeps the unfolded trees of a pipeline, in a store of its own, with `w(i)` and `digit(i)` as open leaves.

    `sights` tells what the stages see of the results for parts of which only the lot is known, as `LotSights` does.
    """

    def __init__(self, stages, sights):
        self.store = Store()
        self._stages = stages
        self._sights = sights
        self._unfolded = {}
        self._results = {}
        self._plans = {}

    def plan(self, word, maker, lots):
        """The plan of the unfolded tree of a word at a maker, for a tuple of lots of its parts."""
        return self._plan_of(self.opened(word, maker, lots))

    def opened(self, word, maker, lots):
        """The number of the unfolded tree."""
        key = (word, maker.name, lots)
        if key not in self._unfolded:
            self._unfolded[key] = self._worked(word, maker, lots)
        return self._unfolded[key]

    def _plan_of(self, number):
        if number not in self._plans:
            self._plans[number] = Plan(self.store, number)
        return self._plans[number]

    def _worked(self, word, maker, lots):
        if word == ITSELF:
            return self._bare_node(maker)
        before, _, state = word.rpartition(".")
        tree = self.opened(before, maker, lots)
        at = word.count(".")
        seen = {}
        for leaf, name, index in self._plan_of(tree).leaves:
            seen[leaf] = self._sights.seen(at, name, maker.wants[index], lots[index])
        # Many lots are seen alike by a single stage.
        key = (at, state, tree, tuple([seen[leaf] for leaf in seen]))
        if key not in self._results:
            self._results[key] = run_over(self.store, self._stages[at], state, tree, seen)
        if self.store.sizes[self._results[key]] > MOST_UNFOLDED:
            raise LimitExceeded("unfolded")
        return self._results[key]

    def _bare_node(self, maker):
        """A node of a maker with unknown parts."""
        parts = []
        for index, want in enumerate(maker.wants):
            parts.append(self.store.open_leaf(DIGIT if want == DIGIT else ITSELF, index))
        return self.store.node(maker.name, tuple(parts))


def run_over(store, stage, state, top, seen):
    """The result of a state for a tree with open leaves, for which the terms of the looks that cover them are known."""
    order = numbers_in(store, top)
    terms = seen_terms(store, stage, order, seen)
    called = {number: [] for number in order}
    called[top].append(state)
    rows = {}
    for number in reversed(list(order)):
        for name in list(called[number]):
            if number in seen:
                continue
            kids = store.kids[number]
            row = fitting_row(stage.named(name), store.names[number], [terms[kid] for kid in kids])
            rows[(number, name)] = row
            for other, variable in calls_of(row.template):
                kid = kids[row.variables.index(variable)]
                if other not in called[kid]:
                    called[kid].append(other)
    results = {}
    for number, name in reversed(list(rows)):
        row = rows[(number, name)]
        results[(number, name)] = put_in(store, row.template, dict(zip(row.variables, store.kids[number])), results)
    return applied(store, top, state, results)


def seen_terms(store, stage, order, seen):
    """The terms of the looks of a stage that cover the parts of a tree, from what is seen of its open leaves."""
    terms = {}
    for number in order:
        name = store.names[number]
        if number in seen:
            terms[number] = seen[number]
        elif name in stage.source:
            inner = [terms[kid] for kid in store.kids[number]]
            terms[number] = stage.sights.node_mark(stage.source.maker(name), inner)
        else:
            terms[number] = ()
    return terms


def put_in(store, template, bound, results):
    """The number of a template: `bound` has the numbers that its variables stand for, `results` those of its calls."""
    if is_variable(template):
        return bound[template.name]
    if is_call(template):
        return applied(store, bound[template.parts[0].name], template.name, results)
    return store.node(template.name, tuple([put_in(store, part, bound, results) for part in template.parts]))


def applied(store, number, state, results):
    """The number of the result of a state; for an open leaf the state joins the word."""
    if not store.is_open(number):
        return results[(number, state)]
    word = store.names[number]
    return store.open_leaf(f"{word}.{state}" if word != ITSELF else state, store.index_of(number))
