"""Whether certificates show their claims (points 48 to 51)."""

from treeworks.certificates import Certificate, Shown
from treeworks.errors import BadCertificate, BadCount, BadStage, LimitExceeded, Unknown
from treeworks.frames import exchanges_of
from treeworks.listing import LinePatterns, ListedWalk, listing_of
from treeworks.pipelines import Pipeline, state_names
from treeworks.stores import Covering, Store, stored_tree
from treeworks.sure import sure_result
from treeworks.trees import HOLE, Tree


def accepts(certificate, *stages):
    """True if the certificate shows its claim, where names stand for the first of these stages."""
    try:
        found = Certificate.read("\n".join(certificate.lines()))
    except BadCertificate:
        return False
    pipeline = named_pipeline(found.title, stages)
    if pipeline is None or found.lines() != certificate.lines():
        return False
    listing = listing_of(pipeline, [Tree.read(term) for term in found.lots])
    if listing is None:
        return False
    if isinstance(found, Shown):
        return accepts_shown(pipeline, listing, found)
    return ranks_hold(listing, found) and ListedWalk(pipeline, listing).runs_are_small()


def named_pipeline(title, stages):
    """The pipeline of the first stages with these names, or None if there is none."""
    found = []
    for name in title.split("."):
        named = [stage for stage in stages if stage.name == name]
        if not named:
            return None
        found.append(named[0])
    try:
        return Pipeline(*found)
    except (BadCount, BadStage):
        return None


def ranks_hold(listing, certificate):
    """True if the `rank` lines of a `Reach` are as they must be."""
    ranked = {}
    for first, second, rank in certificate.ranks:
        old, new = listing.place_of(first), listing.place_of(second)
        if old is None or new is None or old[0] != new[0] or old == new:
            return False
        triple = (old[0], old[1], new[1])
        if triple in ranked or rank > certificate.frames:
            return False
        ranked[triple] = rank
    leads = exchanges_of(listing)
    # Only exchanges of trees that are listed have got a rank.
    if len(ranked) < len(leads):
        return False
    return all([ranked[triple] > ranked[after] for triple in leads for after in leads[triple]])


def accepts_shown(pipeline, listing, certificate):
    """True if a `Shown` with these listed trees, which are closed, is accepted."""
    tree, pattern = Tree.read(certificate.term), Tree.read(certificate.pattern)
    if not pipeline.source.fits(tree, pipeline.takes, holes=True):
        return False
    walk = ListedWalk(pipeline, listing)
    if not walk.runs_are_small():
        return False
    lines = LinePatterns(pipeline, walk)
    if not all([adds_line(lines, word, term, written) for word, term, written in certificate.shows]):
        return False
    if not lines_hold(lines, certificate.shows) or not covers_upwards(lines, tree, pattern):
        return False
    return openings_hold(lines, tree, pattern, certificate.openings)


def adds_line(lines, word, term, written):
    """Adds a line pattern; returns False if such a line cannot stand there, or is there already."""
    pipeline = lines.pipeline
    place = lines.walk.lots.place_of(term)
    try:
        names = state_names(pipeline.stages, word)
    except Unknown:
        return False
    if place is None or place[0] != pipeline.stages[0].named(names[0]).takes:
        return False
    return lines.add_line(word, place[1], Tree.read(written))


def lines_hold(lines, shows):
    """True if each line pattern covers what the unfolded trees of its word lead to."""
    walk = lines.walk
    store = Store()
    covering = Covering(store)
    patterns = {}
    for word, term, _ in shows:
        lot = walk.lots.place_of(term)[1]
        patterns[(word, lot)] = stored_tree(store, lines.sure_line(word, lot), ())
    hole = store.node(HOLE, ())
    for word, term, _ in shows:
        kind, lot = walk.lots.place_of(term)
        for maker, lots in walk.choices.made(kind)[lot]:
            plan = walk.unfolder.plan(word, maker, lots)
            # A digit of the node has no line, so it is a hole like all that have none.
            leaves = [patterns.get((inner, lots[index]), hole) for _, inner, index in plan.leaves]
            if not covering.covers(patterns[(word, lot)], plan.put_into(store, leaves)):
                return False
    return True


def covers_upwards(lines, tree, pattern):
    """True if the pattern covers the tree that is found upwards, and nothing on the way is too large."""
    try:
        return pattern.covers(sure_result(lines, tree))
    except LimitExceeded:
        return False


def openings_hold(lines, tree, pattern, openings):
    """True if there is a line for each hole of the pattern, and its fillings lead to different names there."""
    paths = {}
    for path, _, _ in openings:
        paths[path] = True
    holes = pattern.holes()
    if len(openings) != len(holes) or not all([path in paths for path in holes]):
        return False
    for path, first, second in openings:
        names = [name_for_filling(lines, tree, path, Tree.read(term)) for term in (first, second)]
        if None in names or names[0] == names[1]:
            return False
    return True


def name_for_filling(lines, tree, path, filling):
    """The name at a path of the result for a filling of the tree; None if it is none, or a result is too large."""
    pipeline = lines.pipeline
    if not tree.covers(filling) or not pipeline.source.fits(filling, pipeline.takes):
        return None
    walk = lines.walk
    number = walk.results.last_result(walk.results.numbered(filling))
    # The pattern covers each result, so the path leads to a place.
    return None if number is None else walk.store.names[walk.store.descended(number, path)[0]]
