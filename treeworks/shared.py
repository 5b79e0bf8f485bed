"""Packs of entries, and runs of a pipeline from entries to entries (points 58 and 59)."""

from treeworks.errors import BadPack, Mismatch, Unknown
from treeworks.groves import Grove
from treeworks.jobs import Jobs
from treeworks.tables import DIGIT
from treeworks.walks import Walk


def pack(grove, number):
    """The pack of an entry, a list of integers."""
    grove.entry(number)
    makers = {maker.name: index for index, maker in enumerate(grove.table)}
    groups = {}
    row = []
    for part in grove.needed_for(number):
        name, parts = grove.entry(part)
        row.append(makers[name])
        row.extend([int(kid) if isinstance(kid, str) else groups[kid] for kid in parts])
        groups[part] = len(groups)
    return row


def unpack(grove, kind, row):
    """Puts the tree of this kind with this pack into the grove; returns the number of its entry."""
    if kind not in grove.table.kinds:
        raise Unknown(kind)
    # The list is looked at in a grove of its own, so that nothing is stored if it has a fault.
    trial = Grove(grove.table)
    number = unpacked(trial, kind, row)
    own = pack(trial, number)
    if own != row:
        raise BadPack(first_difference(own, row))
    numbers = {}
    for part in trial.needed_for(number):
        name, parts = trial.entry(part)
        inner = [kid if isinstance(kid, str) else numbers[kid] for kid in parts]
        numbers[part] = grove.stored(name, tuple(inner))
    return numbers[number]


def unpacked(grove, kind, row):
    """Puts the trees of all groups into the grove; returns the number of the entry of the last one."""
    makers = list(grove.table)
    groups = []
    at = 0
    start = 0
    while at < len(row):
        start = at
        if not 0 <= row[at] < len(makers):
            raise BadPack(at)
        maker = makers[row[at]]
        at += 1
        parts = []
        for want in maker.wants:
            if at == len(row):
                raise BadPack(at)
            part = part_of_group(grove, groups, want, row[at])
            if part is None:
                raise BadPack(at)
            parts.append(part)
            at += 1
        groups.append(grove.stored(maker.name, tuple(parts)))
    if not groups or grove.kind_of(groups[-1]) != kind:
        raise BadPack(start)
    return groups[-1]


def part_of_group(grove, groups, want, number):
    """The digit or the entry for which a number stands in a group where a kind is wanted; None if it is none."""
    if want == DIGIT:
        return str(number) if 0 <= number < 10 else None
    if not 0 <= number < len(groups) or grove.kind_of(groups[number]) != want:
        return None
    return groups[number]


def first_difference(row, other):
    """The first index at which two lists differ, or the length of the shorter one."""
    for at, (number, twin) in enumerate(zip(row, other)):
        if number != twin:
            return at
    return len(row) if len(row) < len(other) else len(other)


class SharedRun:
    """Runs the one walk of a pipeline from entries of a grove to entries of a grove."""

    def __init__(self, pipeline, source, target):
        if source.table != pipeline.source or target.table != pipeline.target:
            raise Mismatch()
        self.walk = Walk(pipeline)
        self.worked = 0
        self.total = 0
        self._source = source
        self._jobs = Jobs(self.walk, source, target)

    def __call__(self, number):
        """The number of the entry of the result for an entry."""
        if self._source.kind_of(number) != self.walk.pipeline.takes:
            raise Mismatch()
        result = self._jobs.run(number)
        self.worked = self._jobs.total - self.total
        self.total = self._jobs.total
        return result
