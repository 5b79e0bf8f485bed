"""What of the result of a whole tree can change if some of its parts are exchanged (point 44)."""

from treeworks.errors import BadCount, Mismatch, NoPlace
from treeworks.stores import tree_of
from treeworks.trees import HOLE, Tree
from treeworks.upwards import Upwards

MOST_PATHS = 3


class Stirring:
    """A whole tree, its result, and the effects of its paths; what is found for one of them serves for the others."""

    def __init__(self, sure, tree):
        sure.pipeline.source.check(tree, sure.pipeline.takes)
        self._upwards = Upwards(sure)
        self._top = self._upwards.numbered(tree)
        self.present = tree_of(self._upwards.store, self._upwards.result(self._top))

    def holed_result(self, paths):
        """The sure result for the tree with holes at these paths."""
        return tree_of(self._upwards.store, self._sure_number(paths))

    def effect(self, paths):
        """The paths of the holes of this sure result, in reading order."""
        store = self._upwards.store
        found = []
        waiting = [((), self._sure_number(paths))]
        while waiting:
            path, number = waiting.pop()
            if store.names[number] == HOLE:
                found.append(path)
            for at in reversed(range(len(store.kids[number]))):
                waiting.append(((*path, at), store.kids[number][at]))
        return found

    def can_change(self, path, place):
        """True if the place of the result is one of the effect of the path or lies within one."""
        store = self._upwards.store
        number = self._sure_number((path,))
        for at in place:
            if store.names[number] == HOLE:
                return True
            number = store.kids[number][at]
        return store.names[number] == HOLE

    def _sure_number(self, paths):
        parts = self._upwards.parts
        number = self._top
        for path in paths:
            here = self._top
            for at in path:
                here = parts.kids[here][at]
            number = parts.exchanged(number, path, parts.hole(parts.kinds[here], 0))
        return self._upwards.result(number)


def check_paths(tree, paths):
    """Raises an error if the paths are none whose effect can be asked for."""
    if not 1 <= len(paths) <= MOST_PATHS:
        raise BadCount(len(paths))
    for path in paths:
        if path not in tree:
            raise NoPlace(path)
    for at, path in enumerate(paths):
        for other in paths[at + 1:]:
            if path[:len(other)] == other[:len(path)]:
                raise Mismatch()


def with_holes(tree, paths):
    """The tree with holes at these paths."""
    for path in paths:
        tree = tree.exchanged(path, Tree(HOLE))
    return tree
