"""The listed trees of a certificate in the place of lots (points 49 and 50)."""

from treeworks.algebras import combined
from treeworks.meanings import Meanings
from treeworks.names import DIGITS, is_digit
from treeworks.parts import Choices
from treeworks.results import Results
from treeworks.stores import Store
from treeworks.tables import DIGIT
from treeworks.trees import HOLE, Tree
from treeworks.unfolding import ITSELF, Unfolder


class Listing:
    """Trees of which those of each kind are numbered in their order; `steps` leads from parts to nodes as for lots."""

    def __init__(self, table, trees, steps):
        self.table = table
        self._trees = trees
        self._steps = steps
        self._found = {tree.term: (kind, at) for kind in trees for at, tree in enumerate(trees[kind])}

    def many(self, kind):
        """How many trees of a kind are listed."""
        return len(self._trees[kind])

    def least(self, kind, lot):
        """The listed tree of a kind with this number."""
        return self._trees[kind][lot]

    def next_lot(self, name, lots):
        """The number of the listed tree that has the lot of a node over listed trees, or of a digit."""
        return self._steps[(name, lots)]

    def place_of(self, term):
        """The kind and the number of the listed tree with this term, or None."""
        return self._found.get(term)


class ListedSights:
    """What stages see of the results of words for listed trees; see `LotSights`."""

    def __init__(self, listing, results):
        self._listing = listing
        self._results = results

    def seen(self, at, word, kind, lot):
        """The terms of the looks of the stage with this index that cover the result of a word for a listed tree."""
        if kind == DIGIT:
            return ()
        number = self._results.numbered(self._listing.least(kind, lot))
        for depth, state in enumerate(word.split(".") if word != ITSELF else []):
            number = self._results.result(depth, state, number)
        return self._results.terms(at, number)


class ListedWalk:
    """What of a `Walk` is needed to find trees upwards, with listed trees in the place of lots."""

    def __init__(self, pipeline, listing):
        self.lots = listing
        self.choices = Choices(listing)
        self.store = Store()
        self.results = Results(self.store, pipeline.stages)
        self.unfolder = Unfolder(pipeline.stages, ListedSights(listing, self.results))

    def runs_are_small(self):
        """True if no result is too large, stage by stage, for listed trees and for nodes of one maker over them."""
        return all([self.results.are_small(0, number) for number in self._run_over()])

    def _run_over(self):
        """The numbers of the listed trees, apart from digits, and of the nodes over listed trees."""
        rows = {DIGIT: [self.store.node(tree.name, ()) for tree in self._listed(DIGIT)]}
        found = []
        for kind in self.lots.table.kinds:
            rows[kind] = [self.results.numbered(tree) for tree in self._listed(kind)]
            found.extend(rows[kind])
        for maker in self.lots.table:
            for kids in combined([rows[want] for want in maker.wants]):
                found.append(self.store.node(maker.name, kids))
        return found

    def _listed(self, kind):
        return [self.lots.least(kind, lot) for lot in range(self.lots.many(kind))]


class LinePatterns:
    """The line patterns of a certificate in the place of sure lines; for what it needs besides see `Sure`."""

    def __init__(self, pipeline, walk):
        self.pipeline = pipeline
        self.walk = walk
        self._patterns = {}

    def add_line(self, word, lot, pattern):
        """Adds a line pattern; returns False if this word and listed tree have one already."""
        is_new = (word, lot) not in self._patterns
        self._patterns[(word, lot)] = pattern
        return is_new

    def sure_line(self, word, lot):
        """The line pattern of a word and a listed tree."""
        return self._patterns.get((word, lot), Tree(HOLE))


def listing_of(pipeline, trees):
    """The listing of these trees, or None if they are not closed for the pipeline."""
    source = pipeline.source
    kinds = (*source.kinds, DIGIT)
    listed = {kind: [] for kind in kinds}
    marks = {kind: [] for kind in kinds}
    meanings = Meanings(pipeline.stages)
    for tree in trees:
        kind = kind_of_tree(source, tree)
        if kind is None:
            return None
        mark = meanings.of_tree(tree)
        if mark in marks[kind]:
            return None
        listed[kind].append(tree)
        marks[kind].append(mark)
    steps = closing_steps(source, meanings, marks)
    return None if steps is None else Listing(source, listed, steps)


def kind_of_tree(table, tree):
    """The kind for which a tree is right, or None if there is none."""
    if is_digit(tree.name):
        kind = DIGIT
    elif tree.name in table:
        kind = table.maker(tree.name).kind
    else:
        return None
    return kind if table.fits(tree, kind) else None


def closing_steps(table, meanings, marks):
    """The steps of a `Listing` of trees with these numbers of lots; None if they are not closed."""
    numbered = {kind: {known: at for at, known in enumerate(marks[kind])} for kind in marks}
    # Where digits are wanted, nothing is right without one that is listed.
    if not marks[DIGIT] and any([DIGIT in maker.wants for maker in table]):
        return None
    steps = {(digit, ()): 0 for digit in DIGITS}
    for maker in table:
        for lots in combined([list(range(len(marks[want]))) for want in maker.wants]):
            parts = tuple([marks[want][lot] for want, lot in zip(maker.wants, lots)])
            mark = meanings.of_node(0, maker.name, parts)
            if mark not in numbered[maker.kind]:
                return None
            steps[(maker.name, lots)] = numbered[maker.kind][mark]
    return steps
