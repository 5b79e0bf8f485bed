"""Questions about sets of trees, asked of the lots by which they are described (points 33 and 36)."""

from treeworks.algebras import choices_with_last, combined
from treeworks.names import DIGITS
from treeworks.tables import DIGIT
from treeworks.trees import inner_numbers, places


def pairs_that_occur(first, second):
    """The list of the triples of a kind, a lot of the first table and one of the second one that some tree has."""
    found = []
    met = {}
    waiting = [pair_of(first, second, digit, DIGIT, []) for digit in DIGITS]
    waiting.extend([pair_of(first, second, maker.name, maker.kind, []) for maker in first.table if not maker.wants])
    while waiting:
        triple = waiting.pop()
        if triple in met:
            continue
        met[triple] = True
        found.append(triple)
        for maker in first.table:
            for chosen in choices_with_last(maker.wants, found):
                waiting.append(pair_of(first, second, maker.name, maker.kind, [found[at] for at in chosen]))
    return found


def pair_of(first, second, name, kind, parts):
    """The triple of a node, or of a digit, whose parts have these triples."""
    firsts = tuple([part[1] for part in parts])
    seconds = tuple([part[2] for part in parts])
    return kind, first.next_lot(name, firsts), second.next_lot(name, seconds)


def count_of_size(lots, kind, chosen, size):
    """How many trees of this size have one of the chosen lots of a kind."""
    counts = {(other, lot): [0] for other in (*lots.table.kinds, DIGIT) for lot in range(lots.many(other))}
    uses = part_rows(lots)
    for total in range(1, size + 1):
        for key in list(counts):
            counts[key].append(digits_of(lots, key[1]) if total == 1 and key[0] == DIGIT else 0)
        for result, parts in uses:
            rows = [counts[part] for part in parts]
            counts[result][total] += ways(rows, total - 1)
    return sum([counts[(kind, lot)][size] for lot in chosen])


def part_rows(lots):
    """The list of the pairs of a lot of a node and a list of the lots of its parts, all with kinds, digits first."""
    found = []
    for maker in lots.table:
        for chosen in combined([list(range(lots.many(want))) for want in maker.wants]):
            pairs = list(zip(maker.wants, chosen))
            digits = [pair for pair in pairs if pair[0] == DIGIT]
            others = [pair for pair in pairs if pair[0] != DIGIT]
            found.append(((maker.kind, lots.next_lot(maker.name, chosen)), [*digits, *others]))
    return found


def digits_of(lots, lot):
    """How many digits have a lot."""
    return len([digit for digit in DIGITS if lots.next_lot(digit, ()) == lot])


def ways(rows, size):
    """In how many ways trees with this size together can be taken, one from each row; rows have numbers by sizes."""
    if not rows:
        return 1 if size == 0 else 0
    if len(rows) == 1:
        return rows[0][size]
    total = 0
    for first in range(1, size):
        if rows[0][first] > 0:
            total += rows[0][first] * ways(rows[1:], size - first)
    return total


def least_exchange(lots, kind, chosen, tree):
    """The path and the new part of the exchange with the least cost after which the tree has one of the chosen lots.

    The chosen ones are at least one, and ascending, so with ascending least trees.
    """
    found = places(tree)
    inner = inner_numbers(found)
    present = [0 for _ in found]
    for at in reversed(range(len(found))):
        present[at] = lots.next_lot(found[at][1].name, tuple([present[kid] for kid in inner[at]]))
    wished = [[] for _ in found]
    kinds = [kind for _ in found]
    wished[0].extend(chosen)
    best = None
    for at, (path, part) in enumerate(found):
        new = [lots.least(kinds[at], lot) for lot in wished[at][:1]]
        if new and (best is None or part.size + new[0].size < best[0]):
            best = (part.size + new[0].size, path, new[0])
        if inner[at]:
            maker = lots.table.maker(part.name)
            for place, kid in enumerate(inner[at]):
                kinds[kid] = maker.wants[place]
                here = [present[other] for other in inner[at]]
                wished[kid].extend(fitting_lots(lots, maker, here, place, wished[at]))
    return best[1], best[2]


def fitting_lots(lots, maker, present, place, wished):
    """The lots of the part at a place of a node with which the node has a lot that is wished."""
    found = []
    for lot in range(lots.many(maker.wants[place])):
        new = (*present[:place], lot, *present[place + 1:])
        if lots.next_lot(maker.name, new) in wished:
            found.append(lot)
    return found
