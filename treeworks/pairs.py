"""Two paths of a whole tree, and what depends on the parts there (point 47)."""

from treeworks.needs import Needs
from treeworks.parts import Parts
from treeworks.stirring import Stirring, check_paths, with_holes
from treeworks.tables import kind_due_at
from treeworks.tours import Tour


class Pair:
    """Two paths of a whole tree.

    It has the sure result for the tree with holes at both of them, and the list of the places of their joint effect.
    """

    def __init__(self, sure, tree, first, second):
        stirring = Stirring(sure, tree)
        check_paths(tree, (first, second))
        self.places = stirring.effect((first, second))
        self.sure_tree = stirring.holed_result((first, second))
        self._sure = sure
        self._tree = tree
        self._paths = {"first": first, "second": second}
        # Holes are counted in reading order, in which the second path can come first.
        self._indexes = {"first": 0, "second": 1} if first < second else {"first": 1, "second": 0}
        self._needs = None

    def due_at(self, path):
        """The kind that is due at a path of the tree."""
        pipeline = self._sure.pipeline
        return kind_due_at(pipeline.source, pipeline.takes, self._tree, path)

    def compare(self):
        """Works out the outlines for all choices of lots."""
        self._needs = Needs(self._sure, with_holes(self._tree, (self._paths["first"], self._paths["second"])))

    def owner(self, place):
        """The path on which a place of the joint effect depends, or that it depends on both."""
        owned = [name for name in self._indexes if self._needs.witness(self._indexes[name], place) is not None]
        return owned[0] if len(owned) == 1 else "both"

    def clash_by(self, name, place):
        """A pair of parts with which the place changes if the one of this name comes to the other one."""
        index = self._indexes[name]
        other = self._paths["second" if name == "first" else "first"]
        witness = self._needs.witness(index, place)
        # The parts at this path lead to different results, so one of them to another one than the present part.
        tour = Tour(self._sure.walk, self._sure, Parts(self._sure.pipeline.source, self._sure.walk.choices))
        alone = self._tree.exchanged(other, witness[0][1 - index])
        present = self._part_at(tour, alone, place)
        for parts in witness:
            both = alone.exchanged(self._paths[name], parts[index])
            if self._part_at(tour, both, place) != present:
                return parts[self._indexes["first"]], parts[self._indexes["second"]]
        return None

    def _part_at(self, tour, tree, place):
        """The number in the store of the tour of the part at a place of the result for a whole tree."""
        number = tour.whole_result(tree)
        return tour.store.descended(number, place)[0]
