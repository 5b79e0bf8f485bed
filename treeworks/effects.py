"""Effects of exchanges, on what places hang, and both in texts (points 44 to 46)."""

from treeworks.errors import NoPlace
from treeworks.openings import Openings
from treeworks.outlines import outline
from treeworks.stirring import Stirring, check_paths, with_holes
from treeworks.texts import sign_path, stretches_of
from treeworks.tours import is_mark
from treeworks.trees import places


def effect(sure, tree, *paths, kept=False):
    """The paths of the places of the result that can change if the parts at these paths are exchanged.

    With `kept`, if they are exchanged for parts of the same lots.
    """
    stirring = Stirring(sure, tree)
    check_paths(tree, paths)
    if not kept:
        return stirring.effect(paths)
    holed = with_holes(tree, paths)
    lots = [sure.walk.lots.lot(tree[path]) for path in holed.holes()]
    return [path for path, part in places(outline(sure, holed, *lots)) if is_mark(part)]


def hanging(sure, tree, place):
    """The deepest paths on which a place of the result hangs, in reading order."""
    return hanging_paths(Stirring(sure, tree), tree, place)


def changing(sure, tree, path, place):
    """A part for a path with which the result has another name at a place of the effect of the path."""
    stirring = Stirring(sure, tree)
    if path not in tree:
        raise NoPlace(path)
    if place not in stirring.effect((path,)):
        raise NoPlace(place)
    return Openings(sure, with_holes(tree, (path,))).found(place, stirring.present[place].name)[0][0]


def effect_stretches(sure, tree, *paths):
    """The stretches of the effect of these paths in the text of the result, in ascending order."""
    stirring = Stirring(sure, tree)
    check_paths(tree, paths)
    return stretches_of(sure.pipeline.target, stirring.present, stirring.effect(paths))


def source_stretches(sure, tree, index):
    """The stretches, in the text of the tree, of the deepest paths on which a character of the result hangs."""
    stirring = Stirring(sure, tree)
    place = sign_path(sure.pipeline.target, stirring.present, index)
    return stretches_of(sure.pipeline.source, tree, hanging_paths(stirring, tree, place))


def hanging_paths(stirring, tree, place):
    """As `hanging`, for a tree whose result is known."""
    # What is needed of effects comes before the place is looked at.
    stirring.effect(((),))
    if place not in stirring.present:
        raise NoPlace(place)
    deepest = []
    waiting = [()] if stirring.can_change((), place) else []
    while waiting:
        path = waiting.pop()
        inner = [(*path, at) for at in range(len(tree[path].parts))]
        deeper = [part for part in inner if stirring.can_change(part, place)]
        if deeper:
            waiting.extend(deeper[::-1])
        else:
            deepest.append(path)
    return deepest
