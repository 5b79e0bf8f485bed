"""How far an exchange is noticed (points 52 and 53)."""

from treeworks.errors import NoPlace, WrongTree
from treeworks.frames import exchanges_of, first_ring, longest_ways, way_of_length
from treeworks.lots import lots_of
from treeworks.tables import kind_due_at
from treeworks.trees import Tree


def frames_changed(pipeline, tree, path, part):
    """The number of frames that are changed if the part at the path is exchanged."""
    source = pipeline.source
    if tree.name not in source:
        raise WrongTree(())
    kind = source.maker(tree.name).kind
    source.check(tree, kind)
    if path not in tree:
        raise NoPlace(path)
    source.check(part, kind_due_at(source, kind, tree, path))
    lots = lots_of(pipeline)
    old = lots.lot_of(tree[path])
    new = lots.lot_of(part)
    changed = 0
    for depth in reversed(range(len(path))):
        frame = tree[path[:depth]]
        inner = [lots.lot_of(other) for other in frame.parts]
        at = path[depth]
        inner[at] = old
        old = lots.next_lot(frame.name, tuple(inner))
        inner[at] = new
        new = lots.next_lot(frame.name, tuple(inner))
        if old == new:
            break
        changed += 1
    return changed


def reach(pipeline):
    """The greatest number of frames that one exchange changes, or None if there is none."""
    found = ranks(pipeline)
    return None if found is None else greatest_rank(found)


def greatest_rank(found):
    """The greatest of the ranks that are found, 0 if there is none."""
    most = 0
    for _, _, rank in found:
        if rank > most:
            most = rank
    return most


def reaching(pipeline, frames):
    """A tree, a path of so many integers, and a part that changes all frames there; None if there are none."""
    lots = lots_of(pipeline)
    if frames == 0:
        least = pipeline.source.least(pipeline.source.kinds[0])
        return least, (), least
    leads = exchanges_of(lots)
    way = way_of_length(leads, frames)
    if way is None:
        return None
    kind, old, new = way[0]
    tree = lots.least(kind, old)
    path = ()
    for triple, after in zip(way, way[1:]):
        maker, chosen, at = leads[triple][after]
        parts = [lots.least(want, lot) for want, lot in zip(maker.wants, chosen)]
        parts[at] = tree
        tree = Tree(maker.name, *parts)
        path = (at, *path)
    return tree, path, lots.least(kind, new)


def ring(pipeline):
    """A list of the triples of a ring, or None if there is none."""
    lots = lots_of(pipeline)
    leads = exchanges_of(lots)
    found = first_ring(leads, longest_ways(leads))
    if found is None:
        return None
    return [(kind, lots.least(kind, old), lots.least(kind, new)) for kind, old, new in found]


def ranks(pipeline):
    """The tuples of two least trees of lots of one kind and their rank, or None if there is a ring."""
    return ranked(lots_of(pipeline))


def ranked(lots):
    """As `ranks`, for the lots of a pipeline."""
    leads = exchanges_of(lots)
    ways = longest_ways(leads)
    if len(ways) < len(leads):
        return None
    return [(lots.least(kind, old), lots.least(kind, new), ways[(kind, old, new)]) for kind, old, new in leads]
