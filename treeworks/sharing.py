"""Exchanges of two parts that do not touch each other (point 47)."""

from treeworks.errors import LimitExceeded, NoPlace, NotApart
from treeworks.pairs import Pair
from treeworks.trees import Tree


def owners(sure, tree, first, second):
    """Which of two paths each place of their joint effect depends on."""
    pair = Pair(sure, tree, first, second)
    pair.compare()
    return [(place, pair.owner(place)) for place in pair.places]


def apart(sure, tree, first, second):
    """True if no place of the joint effect of two paths depends on both."""
    return "both" not in [owner for _, owner in owners(sure, tree, first, second)]


def put_together(sure, tree, first, part, second, other):
    """The result for the exchange of two parts, put together of the results for the exchange of each one alone."""
    pair = Pair(sure, tree, first, second)
    table = sure.pipeline.source
    table.check(part, pair.due_at(first))
    table.check(other, pair.due_at(second))
    pair.compare()
    owned = [pair.owner(place) for place in pair.places]
    if "both" in owned:
        raise NotApart()
    walk = sure.walk
    alone = {"first": walk(tree.exchanged(first, part)), "second": walk(tree.exchanged(second, other))}
    parts = [alone[owner][place] for place, owner in zip(pair.places, owned)]
    size = pair.sure_tree.size - len(parts) + sum([piece.size for piece in parts])
    if size > Tree.MOST_NAMES:
        raise LimitExceeded("result")
    # Each level that is put together is one of the results alone, too, so there are not more than in these.
    return pair.sure_tree.filled(*parts)


def clash(sure, tree, first, second, place):
    """Two pairs of parts that show that a place depends on both paths."""
    pair = Pair(sure, tree, first, second)
    pair.compare()
    if place not in pair.places or pair.owner(place) != "both":
        raise NoPlace(place)
    return pair.clash_by("second", place), pair.clash_by("first", place)
