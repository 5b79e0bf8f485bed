"""The classes of sets: lots that no context tells apart (point 32)."""

from treeworks.algebras import LotTable, combined
from treeworks.rules import BlockRule
from treeworks.tables import DIGIT


def merged(lots, kind, chosen):
    """The table in which those lots of a table stand together that no context to the kind tells apart.

    The trees of the kind whose lots are among the chosen ones are those into which such a context may lead or not.
    """
    uses = uses_of(lots)
    blocks = {
        (other, lot): (other, other == kind and lot in chosen)
        for other in (*lots.table.kinds, DIGIT)
        for lot in range(lots.many(other))
    }
    many = 0
    while many_of_blocks(blocks) > many:
        many = many_of_blocks(blocks)
        blocks = parted(blocks, uses)
    return LotTable(lots.table, BlockRule(lots, first_lots(blocks)))


def uses_of(lots):
    """The list of all pairs of a lot of a part and the lot of the node, both with their kinds.

    The pairs of two lots of one kind stand in the same order, by the maker, the place and the other parts.
    """
    found = []
    for maker in lots.table:
        rows = [[(want, lot) for lot in range(lots.many(want))] for want in maker.wants]
        for at in range(len(rows)):
            for chosen in combined(rows):
                result = lots.next_lot(maker.name, tuple([lot for _, lot in chosen]))
                found.append((chosen[at], (maker.kind, result)))
    return found


def many_of_blocks(blocks):
    return len(set(list(blocks.values())))


def parted(blocks, uses):
    """The blocks, as numbers, in which lots stay together if what they are used for is in the same blocks."""
    seen = {key: [blocks[key]] for key in blocks}
    for part, result in uses:
        seen[part].append(blocks[result])
    numbers = {}
    for key in seen:
        found = tuple(seen[key])
        if found not in numbers:
            numbers[found] = len(numbers)
    return {key: numbers[tuple(seen[key])] for key in seen}


def first_lots(blocks):
    """For each pair of a kind and a lot the first lot that is in the same block."""
    firsts = {}
    for key in blocks:
        if blocks[key] not in firsts:
            firsts[blocks[key]] = key[1]
    return {key: firsts[blocks[key]] for key in blocks}
