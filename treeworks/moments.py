"""What a bench has at its moments (points 65, 66, 68 and 69)."""

from treeworks.groves import Grove
from treeworks.jobs import Jobs
from treeworks.patches import Patch
from treeworks.sure import Sure, sure_result
from treeworks.texts import all_stretches, text_of


class Engine:
    """A pipeline as it was assigned to a bench, with a shared store for the jobs of all right documents."""

    def __init__(self, pipeline):
        self.assigned = pipeline
        self._sure = Sure(pipeline)
        self._grove = Grove(pipeline.source)
        self.jobs = Jobs(self._sure.walk, self._grove, Grove(pipeline.target))

    def setting_of(self, document):
        """What the bench has with this pipeline and a document; the jobs of a right document are counted."""
        sure_tree = sure_result(self._sure, document.known)
        if document.right:
            self.jobs.run(self._grove.put(document.skeleton))
        return Setting(self, document, sure_tree, text_of(self.assigned.target, sure_tree))


class Setting:
    """A document and an engine, with the tree that is shown for them, and its text."""

    def __init__(self, engine, document, sure_tree, written):
        self.engine = engine
        self.held = document
        self.sure_tree = sure_tree
        self.written = written


class Moment:
    """A moment of a bench: its number, its setting, and the settings to which an undo or a redo leads, the next last.

    `before` is the moment before it and `line` the line of the log that led from there, both None at the moment 0.
    """

    def __init__(self, before, line, setting, done, undone):
        self.at = 0 if before is None else before.at + 1
        self.before = before
        self.line = line
        self.setting = setting
        self.done = done
        self.undone = undone
        self.mended = Patch() if before is None else patch_between(before.setting, setting)

    def after_deed(self, line, setting):
        """The moment after a deed."""
        return Moment(self, line, setting, (*self.done, self.setting), ())

    def after_undo(self):
        """The moment after an undo, if there is a deed that can be taken back."""
        return Moment(self, "undo", self.done[-1], self.done[:-1], (*self.undone, self.setting))

    def after_redo(self):
        """The moment after a redo, if there is a deed that was taken back."""
        return Moment(self, "redo", self.undone[-1], (*self.done, self.setting), self.undone[:-1])

    def standing_since(self, place):
        """The number of the moment since which a place of the shown tree stands."""
        names = names_along(self.setting.sure_tree, place)
        moment = self
        while moment.before is not None and names_along(moment.before.setting.sure_tree, place) == names:
            moment = moment.before
        return moment.at

    def lines_so_far(self):
        """The list of the lines of the log."""
        found = []
        moment = self
        while moment.before is not None:
            found.append(moment.line)
            moment = moment.before
        return found[::-1]


def names_along(tree, path):
    """The names on the way along a path, or None if it leads to no place."""
    names = [tree.name]
    for at in path:
        if not 0 <= at < len(tree.parts):
            return None
        tree = tree.parts[at]
        names.append(tree.name)
    return names


def patch_between(old, new):
    """The patch that leads from the output of one setting to that of the next one."""
    first, second = old.engine.assigned, new.engine.assigned
    if first.target != second.target or first.gives != second.gives:
        return Patch((0, len(old.written), new.written))
    table = second.target
    places = different_places(old.sure_tree, new.sure_tree)
    stretches = all_stretches(table, old.sure_tree, {})
    triples = []
    for path in stretches:
        if path in places:
            start, end = stretches[path]
            triples.append((start, end, text_of(table, places[path])))
    return Patch(*triples)


def different_places(old, new):
    """The places at which two trees have different names below equal ones, with what the new tree has there."""
    found = {}
    waiting = [((), old, new)]
    while waiting:
        path, part, twin = waiting.pop()
        if part.name != twin.name:
            found[path] = twin
        else:
            for at, (kid, other) in enumerate(zip(part.parts, twin.parts)):
                waiting.append(((*path, at), kid, other))
    return found
