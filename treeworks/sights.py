"""What the rows of a stage see of trees (point 26)."""

from treeworks.names import is_big_name
from treeworks.trees import in_order, is_hole, places


class Sights:
    """The looks of a stage, as a rule for a `LotTable`: the mark of a tree tells which looks cover it."""

    def __init__(self, source, rows):
        looks = in_order([look for row in rows for guard in row.guards for look in looks_in(guard)])
        self.looks = {kind: looks_of_kind(source, kind, looks) for kind in source.kinds}

    def digit_mark(self, digit):
        """The mark of a digit: no look covers it."""
        return ()

    def node_mark(self, maker, marks):
        """The terms of the looks that cover a node whose parts have these marks."""
        looks = [look for look in self.looks[maker.kind] if look.name == maker.name]
        return tuple([look.term for look in looks if sees(look, marks)])


def looks_in(guard):
    """All trees in a guard, apart from holes."""
    return [part for _, part in places(guard) if is_big_name(part.name)]


def looks_of_kind(source, kind, looks):
    """The tuple of those looks that have a maker of the kind."""
    return tuple([look for look in looks if source.maker(look.name).kind == kind])


def sees(look, marks):
    """True if the look covers the node of its maker whose parts have these marks."""
    return all([is_hole(part) or part.term in mark for part, mark in zip(look.parts, marks)])
