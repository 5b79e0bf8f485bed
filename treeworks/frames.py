"""How an exchange of a part is noticed by the frames above it, told from lots (points 52, 53 and 51).

An exchange is a triple of a kind and two different lots of it, an old one and a new one. It leads to another exchange
if some node with a part of the old lot changes its lot in this way when the part gets the new lot.
"""

from treeworks.algebras import combined


def exchanges_of(lots):
    """For each exchange, in order, a dict of those to which it leads.

    For each of these it has the maker of a node that shows it, the lots of its parts, and the index of the part.
    """
    leads = {}
    for kind in lots.table.kinds:
        for old in range(lots.many(kind)):
            for new in range(lots.many(kind)):
                if old != new:
                    leads[(kind, old, new)] = {}
    for maker in lots.table:
        rows = [list(range(lots.many(want))) for want in maker.wants]
        for chosen in combined(rows):
            for at in range(len(rows)):
                note_exchanges(lots, leads, maker, chosen, at)
    return leads


def note_exchanges(lots, leads, maker, chosen, at):
    """Notes what comes of exchanges of the part at an index of a node whose parts have the chosen lots."""
    want = maker.wants[at]
    old = lots.next_lot(maker.name, chosen)
    for lot in range(lots.many(want)):
        new = lots.next_lot(maker.name, (*chosen[:at], lot, *chosen[at + 1:]))
        if new != old:
            leads[(want, chosen[at], lot)].setdefault((maker.kind, old, new), (maker, chosen, at))


def longest_ways(leads):
    """For each exchange the greatest number of exchanges to which it leads one after the other.

    Those from which a ring is reached are left out.
    """
    before = {triple: [] for triple in leads}
    left = {triple: len(leads[triple]) for triple in leads}
    for triple in leads:
        for after in leads[triple]:
            before[after].append(triple)
    ways = {}
    waiting = [triple for triple in leads if left[triple] == 0]
    while waiting:
        triple = waiting.pop()
        ways[triple] = 0
        for after in leads[triple]:
            if ways[after] >= ways[triple]:
                ways[triple] = ways[after] + 1
        for other in before[triple]:
            left[other] -= 1
            if left[other] == 0:
                waiting.append(other)
    return ways


def first_ring(leads, ways):
    """A list of exchanges that lead to one another in a ring, or None; `ways` has those that lead to none."""
    rest = [triple for triple in leads if triple not in ways]
    if not rest:
        return None
    way = [rest[0]]
    met = {way[0]: 0}
    while True:
        after = [triple for triple in leads[way[-1]] if triple not in ways][0]
        if after in met:
            return way[met[after]:]
        met[after] = len(way)
        way.append(after)


def way_of_length(leads, many):
    """A list of exchanges, each of which leads to the next one, with so many behind the first one; None if none is."""
    able = [{triple: True for triple in leads}]
    for steps in range(many):
        longer = {}
        for triple in leads:
            if any([after in able[steps] for after in leads[triple]]):
                longer[triple] = True
        able.append(longer)
    way = list(able[many])[:1]
    for steps in reversed(range(many)):
        if way:
            way.append([after for after in leads[way[-1]] if after in able[steps]][0])
    return way if way else None
