"""Looks, the lots of pipelines, and what tells two lots apart (points 26 and 27)."""

from treeworks.errors import Mismatch, Unknown, WrongTree
from treeworks.meanings import have_same_lot
from treeworks.onwards import lot_tables
from treeworks.tables import DIGIT


def looks(stage, kind):
    """The tuple of the looks of a stage for a kind of its source, in ascending order."""
    if kind not in stage.source.kinds:
        raise Unknown(kind)
    return stage.sights.looks[kind]


def lots_of(pipeline):
    """The lots of a pipeline."""
    return lot_tables(pipeline.stages, None)[0]


def parting_look(pipeline, first, second):
    """A word and the look that covers only one of its results for the two trees, or None if their lot is the same."""
    source = pipeline.source
    kinds = []
    for tree in (first, second):
        if tree.name not in source:
            raise WrongTree(())
        kind = source.maker(tree.name).kind
        source.check(tree, kind)
        kinds.append(kind)
    if kinds[0] != kinds[1]:
        raise Mismatch()
    if have_same_lot(pipeline.stages, first, second):
        return None
    return first_parting(pipeline.stages, (), kinds[0], first, second)


def first_parting(stages, states, kind, first, second):
    """What parts two results of these states, which the first of the stages gets; depth first, None if nothing does."""
    for look in looks(stages[0], kind):
        if look.covers(first) != look.covers(second):
            return ".".join(states), look
    if len(stages) == 1:
        return None
    for state in stages[0].states:
        if state.takes == kind and state.gives != DIGIT:
            results = [stages[0].run(state.name, tree) for tree in (first, second)]
            found = first_parting(stages[1:], (*states, state.name), state.gives, results[0], results[1])
            if found is not None:
                return found
    return None
