"""Sets of trees (points 30 to 36)."""

from treeworks.algebras import LotTable
from treeworks.errors import Mismatch, NoTree, Unknown, WrongTree
from treeworks.merging import merged
from treeworks.names import is_digit
from treeworks.onwards import lot_tables
from treeworks.rules import CoverRule, EveryRule, PairRule, SingleRule
from treeworks.seeking import count_of_size, least_exchange, pairs_that_occur
from treeworks.trees import is_hole, places


class TreeSet:
    """A set of whole right trees of one kind of a table; it does not change.

    It is made of a table of lots and a list of those lots of the kind whose trees are in the set.
    """

    def __init__(self, lots, kind, chosen):
        classes = merged(lots, kind, chosen)
        trees = [lots.least(kind, lot) for lot in chosen]
        self.table = lots.table
        self.kind = kind
        self.lots = classes
        # Ascending, as the lots and so their least trees are.
        self.inside = {classes.lot_of(tree): True for tree in trees}

    @classmethod
    def every(cls, table, kind):
        """All right trees of a kind."""
        if kind not in table.kinds:
            raise Unknown(kind)
        return cls(LotTable(table, EveryRule()), kind, [0])

    @classmethod
    def covered(cls, table, kind, pattern):
        """The trees of a kind that the pattern covers."""
        if kind not in table.kinds:
            raise Unknown(kind)
        check_pattern(table, kind, pattern)
        lots = LotTable(table, CoverRule(pattern, False))
        marks = [lots.mark(kind, lot) for lot in range(lots.many(kind))]
        return cls(lots, kind, [lot for lot, mark in enumerate(marks) if is_hole(pattern) or pattern.term in mark[0]])

    @classmethod
    def holding(cls, table, kind, pattern):
        """The trees of a kind that have a part that the pattern covers."""
        if kind not in table.kinds:
            raise Unknown(kind)
        if pattern.name not in table:
            raise WrongTree(())
        check_pattern(table, table.maker(pattern.name).kind, pattern)
        lots = LotTable(table, CoverRule(pattern, True))
        return cls(lots, kind, [lot for lot in range(lots.many(kind)) if lots.mark(kind, lot)[1]])

    @classmethod
    def single(cls, table, tree):
        """The set with this tree alone."""
        if tree.name not in table:
            raise WrongTree(())
        kind = table.maker(tree.name).kind
        table.check(tree, kind)
        lots = LotTable(table, SingleRule(tree))
        return cls(lots, kind, [lots.lot_of(tree)])

    def __and__(self, other):
        """The trees in both sets."""
        if not isinstance(other, TreeSet):
            return NotImplemented
        return joined(self, other, ((True, True),))

    def __or__(self, other):
        """The trees in at least one of the sets."""
        if not isinstance(other, TreeSet):
            return NotImplemented
        return joined(self, other, ((True, True), (True, False), (False, True)))

    def __sub__(self, other):
        """The trees in this set but not in the other one."""
        if not isinstance(other, TreeSet):
            return NotImplemented
        return joined(self, other, ((True, False),))

    def __xor__(self, other):
        """The trees in exactly one of the sets."""
        if not isinstance(other, TreeSet):
            return NotImplemented
        return joined(self, other, ((True, False), (False, True)))

    def __invert__(self):
        """The trees of the kind that are not in the set."""
        outside = [lot for lot in range(self.lots.many(self.kind)) if lot not in self.inside]
        return TreeSet(self.lots, self.kind, outside)

    def __contains__(self, tree):
        """True if the tree is in the set."""
        return self.table.fits(tree, self.kind) and self.lots.lot_of(tree) in self.inside

    def __eq__(self, other):
        if not isinstance(other, TreeSet):
            return False
        # The lots of the smallest table are numbered by their least trees, so equal sets have equal tables.
        return are_comparable(self, other) and self.inside == other.inside and self.lots.has_steps_of(other.lots)

    def within(self, other):
        """True if each tree of this set is in the other one."""
        if not are_comparable(self, other):
            raise Mismatch()
        triples = [triple for triple in pairs_that_occur(self.lots, other.lots) if triple[0] == self.kind]
        return not any([first in self.inside and second not in other.inside for _, first, second in triples])

    def smallest(self):
        """The least tree of the set, or None."""
        for lot in self.inside:
            return self.lots.least(self.kind, lot)
        return None

    def number(self, size):
        """How many trees of this size are in the set."""
        return count_of_size(self.lots, self.kind, self.inside, size)

    def classes(self, kind):
        """The number of classes of a kind."""
        return self.lots.many(kind)

    def nearest(self, tree):
        """The least exchange of a part that leads into the set, or None if the tree is in it."""
        self.table.check(tree, self.kind)
        if not self.inside:
            raise NoTree()
        if self.lots.lot_of(tree) in self.inside:
            return None
        return least_exchange(self.lots, self.kind, self.inside, tree)


def check_pattern(table, kind, pattern):
    """Raises an error if the tree is not a pattern for the kind."""
    table.check(pattern, kind, holes=True)
    for path, part in places(pattern):
        if is_digit(part.name):
            raise WrongTree(path)


def are_comparable(first, second):
    """True if both sets have the same table and the same kind."""
    return first.table == second.table and first.kind == second.kind


def joined(first, second, wanted):
    """The set of the trees for which it is wanted whether they are in each of the two sets."""
    if not are_comparable(first, second):
        raise Mismatch()
    lots = LotTable(first.table, PairRule(first.lots, second.lots))
    chosen = []
    for lot in range(lots.many(first.kind)):
        mark = lots.mark(first.kind, lot)
        if (mark[0] in first.inside, mark[1] in second.inside) in wanted:
            chosen.append(lot)
    return TreeSet(lots, first.kind, chosen)


def before(pipeline, trees):
    """The set of the trees for which the result of the pipeline is in a set."""
    if trees.table != pipeline.target or trees.kind != pipeline.gives:
        raise Mismatch()
    tables = lot_tables(pipeline.stages, trees.lots)
    kind = pipeline.takes
    chosen = [lot for lot in range(tables[0].many(kind)) if result_lot(pipeline, tables, lot) in trees.inside]
    return TreeSet(tables[0], kind, chosen)


def result_lot(pipeline, tables, lot):
    """The lot of the result of the pipeline for the trees of a lot."""
    kind = pipeline.takes
    for stage, lots in zip(pipeline.stages, tables):
        lot = dict(lots.mark(kind, lot)[1])[stage.start]
        kind = stage.named(stage.start).gives
    return lot
