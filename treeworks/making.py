"""Making certificates (points 50 and 51)."""

from treeworks.certificates import Reach, Shown
from treeworks.lots import lots_of
from treeworks.openings import Openings
from treeworks.reaches import greatest_rank, ranked
from treeworks.sure import Sure, sure_result
from treeworks.tables import DIGIT
from treeworks.trees import is_hole


def show_sure(pipeline, tree):
    """A `Shown` for the sure result of the pipeline for a tree with holes."""
    sure = Sure(pipeline)
    pattern = sure_result(sure, tree)
    lots = sure.walk.lots
    shows = []
    for word in sure.walk.words():
        kind = sure.walk.taken_by(word)
        for lot in range(lots.many(kind)):
            line = sure.sure_line(word, lot)
            # Where there is no line, the line pattern is a hole.
            if not is_hole(line):
                shows.append((word, lots.least(kind, lot).term, line.term))
    openings = Openings(sure, tree)
    found = []
    for place in pattern.holes():
        first, second = openings.parting(place)
        found.append((place, tree.filled(*first).term, tree.filled(*second).term))
    return Shown(pipeline.title, tree.term, pattern.term, listed_terms(lots), shows, found)


def show_reach(pipeline):
    """A `Reach` with the reach of the pipeline, or None if there is no greatest number."""
    lots = lots_of(pipeline)
    found = ranked(lots)
    if found is None:
        return None
    ranks = [(old.term, new.term, rank) for old, new, rank in found]
    return Reach(pipeline.title, greatest_rank(found), listed_terms(lots), ranks)


def listed_terms(lots):
    """The terms of the least trees of all lots, with a digit if some maker wants one."""
    kinds = list(lots.table.kinds)
    if any([DIGIT in maker.wants for maker in lots.table]):
        kinds.append(DIGIT)
    return [lots.least(kind, lot).term for kind in kinds for lot in range(lots.many(kind))]
