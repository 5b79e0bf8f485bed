"""Results of words for parts of trees, where each hole stands for all trees of one lot (points 29 and 40)."""

from treeworks.names import read_path, written_path
from treeworks.stores import Store, stored_tree
from treeworks.tables import DIGIT
from treeworks.trees import places


class Tour:
    """Works out results and outlines, which are held in its store; each result of a word for a part only once.

    `parts` holds the parts, with the holes kept apart, and `lines` tells the sure lines for the words at holes. Where
    lots are passed, they are a tuple with a lot for each hole of the whole tree.
    """

    def __init__(self, walk, lines, parts):
        self.store = Store()
        self._walk = walk
        self._lines = lines
        self._parts = parts
        self._lots = {}
        self._results = {}
        self._marked = {}

    def lot(self, part, lots):
        """The lot of a part."""
        if self._parts.gaps[part] == 0:
            return self._parts.lots[part][0]
        inside = self._inside(part, lots)
        if self._parts.is_gap(part):
            return inside[0]
        key = (part, inside)
        if key not in self._lots:
            inner = []
            for kid in self._parts.kids[part]:
                inner.append(self.lot(kid, lots))
            self._lots[key] = self._walk.lots.next_lot(self._parts.names[part], tuple(inner))
        return self._lots[key]

    def plan(self, part, word, lots):
        """The plan of the unfolded tree of a word at a node."""
        inner = tuple([self.lot(kid, lots) for kid in self._parts.kids[part]])
        return self._walk.unfolder.plan(word, self._parts.heads[part], inner)

    def result(self, part, word, lots):
        """The number of the result of a word for a part; for the word for digits that of the digit or its mark."""
        key = (part, word, self._inside(part, lots))
        if key not in self._results:
            if self._parts.is_gap(part):
                self._results[key] = self.marked(word, self._parts.kinds[part], key[2][0], self._parts.firsts[part])
            elif word == DIGIT:
                self._results[key] = self.store.node(self._parts.names[part], ())
            else:
                kids = self._parts.kids[part]
                plan = self.plan(part, word, lots)
                leaves = []
                for _, inner, index in plan.leaves:
                    leaves.append(self.result(kids[index], inner, lots))
                self._results[key] = plan.put_into(self.store, leaves)
        return self._results[key]

    def whole_result(self, tree):
        """The number of the result of the pipeline for a whole tree."""
        pipeline = self._walk.pipeline
        return self.result(self._parts.placed(tree, pipeline.takes, apart=True)[0], pipeline.start, ())

    def marked(self, word, kind, lot, index):
        """The number of what is sure of the result for a tree of a lot, with marks with this index at its holes."""
        if kind == DIGIT:
            return self.store.open_leaf(DIGIT, index)
        key = (word, lot, index)
        if key not in self._marked:
            line = self._lines.sure_line(word, lot)
            marks = [self.store.open_leaf(mark_of(word, path), index) for path in line.holes()]
            self._marked[key] = stored_tree(self.store, line, marks)
        return self._marked[key]

    def _inside(self, part, lots):
        """The lots of the holes in a part."""
        first = self._parts.firsts[part]
        return lots[first:first + self._parts.gaps[part]]


def mark_of(word, path):
    """The name of the mark for what stands at a path of the result of a word."""
    return f"{word}@{written_path(path)}"


def is_mark(tree):
    """True if the top of an outline is a mark."""
    return len(tree.parts) == 1 and (tree.name == DIGIT or "@" in tree.name)


def read_mark(name):
    """The word and the path of a mark with this name; the one for digits has the empty path."""
    if name == DIGIT:
        return name, ()
    word, _, written = name.partition("@")
    return word, read_path(written)


def all_visits(walk, tour, tree, numbers):
    """The list of the visits of the walk on a tree whose places have these numbers of parts, in order."""
    paths = [path for path, _ in places(tree)]
    words = {path: {} for path in paths}
    words[()][walk.pipeline.start] = True
    found = []
    for at, path in enumerate(paths):
        for word in sorted([str(each) for each in words[path]]):
            found.append((path, word))
            for _, inner, index in tour.plan(numbers[at], word, ()).leaves:
                if inner != DIGIT:
                    below = (*path, index)
                    words[below][inner] = True
    return found
