"""Outlines, needed holes, and fillings that show what is open and needed (points 38, 40 and 41)."""

from treeworks.errors import BadCount, BadIndex, LimitExceeded, NoPlace
from treeworks.needs import Needs
from treeworks.openings import Openings
from treeworks.parts import Parts
from treeworks.stores import tree_of
from treeworks.sure import sure_result
from treeworks.tours import Tour


def outline(sure, tree, *lots):
    """The result for all fillings of a tree with parts of these lots, with marks at the places that depend on them."""
    check_tree(sure, tree)
    parts = Parts(sure.pipeline.source, sure.walk.choices)
    numbers = parts.placed(tree, sure.pipeline.takes, apart=True)
    kinds = [parts.kinds[number] for number in numbers if parts.is_gap(number)]
    if len(lots) != len(kinds):
        raise BadCount(len(lots))
    for kind, lot in zip(kinds, lots):
        if not 0 <= lot < sure.walk.lots.many(kind):
            raise BadIndex(lot)
    tour = Tour(sure.walk, sure, parts)
    number = tour.result(numbers[0], sure.pipeline.start, lots)
    if tour.store.is_large(number):
        raise LimitExceeded("result")
    return tree_of(tour.store, number)


def opening(sure, tree, place):
    """Two fillings of a tree whose results have different names at a place, which is a hole of the sure result."""
    if place not in sure_result(sure, tree).holes():
        raise NoPlace(place)
    first, second = Openings(sure, tree).parting(place)
    return tree.filled(*first), tree.filled(*second)


def needed(sure, tree):
    """The paths of the needed holes of a tree, in reading order."""
    check_tree(sure, tree)
    needs = Needs(sure, tree)
    return [path for at, path in enumerate(tree.holes()) if needs.witness(at, ()) is not None]


def two_fillings(sure, tree, path):
    """Two tuples of parts for the holes, which differ only at one hole and lead to different results, or None."""
    check_tree(sure, tree)
    holes = tree.holes()
    if path not in holes:
        raise NoPlace(path)
    witness = Needs(sure, tree).witness(holes.index(path), ())
    return None if witness is None else (tuple(witness[0]), tuple(witness[1]))


def check_tree(sure, tree):
    """Raises an error if the tree is not right with holes for the kind that the pipeline takes."""
    sure.pipeline.source.check(tree, sure.pipeline.takes, holes=True)
