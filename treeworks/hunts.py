"""Looking for trees of a lot for which a result has another name at a place (points 38 and 40)."""

from treeworks.parts import Parts
from treeworks.tables import DIGIT
from treeworks.tours import Tour
from treeworks.trees import Tree


def name_at(sure, word, tree, path):
    """The name at a path of the result of a word for a tree; for the word for digits the name of the digit."""
    if word == DIGIT:
        return tree.name
    parts = Parts(sure.pipeline.source, sure.walk.choices)
    tour = Tour(sure.walk, sure, parts)
    number = tour.result(parts.placed(tree, sure.walk.taken_by(word), apart=True)[0], word, ())
    return tour.store.names[tour.store.descended(number, path)[0]]


def part_with_other_name(sure, word, lot, path, avoided):
    """A pair of a tree of a lot and the name that the result of the word for it has at the path, which is not avoided.

    None if there is no such tree. For the word for digits it is a digit. The search goes by the number of steps over
    triples of a word, a lot and a path; for each it keeps how it was reached, so the tree is made of few steps away
    from least trees of lots.
    """
    if word == DIGIT:
        return other_digit(avoided)
    walk = sure.walk
    start = (word, lot, path)
    came = {start: None}
    waiting = [start]
    at = 0
    while at < len(waiting):
        triple = waiting[at]
        at += 1
        for maker, lots in walk.choices.made(walk.taken_by(triple[0]))[triple[1]]:
            name, index, rest = looked_up(walk, triple[0], triple[2], maker, lots)
            parts = walk.choices.least_parts(maker, lots)
            if name == DIGIT:
                parts[index], digit = other_digit(avoided)
                return climbed(walk, came, triple, Tree(maker.name, *parts)), digit
            if index is None:
                if name != avoided:
                    return climbed(walk, came, triple, Tree(maker.name, *parts)), name
            elif (name, lots[index], rest) not in came:
                came[(name, lots[index], rest)] = (triple, maker, lots, index)
                waiting.append((name, lots[index], rest))
    return None


def other_digit(avoided):
    """A pair of a digit and its name, which is not the avoided one."""
    name = "1" if avoided == "0" else "0"
    return Tree(name), name


def looked_up(walk, word, path, maker, lots):
    """What the unfolded tree of the word has at the path: its name and no index, or a word, an index and what is left.

    The latter if the path leads into the result of a word for the part with this index, or to a digit of the node.
    """
    store = walk.unfolder.store
    number, rest = store.descended(walk.unfolder.opened(word, maker, lots), path)
    index = store.index_of(number) if store.is_open(number) else None
    return store.names[number], index, rest


def climbed(walk, came, triple, tree):
    """The tree of the first triple in which the tree stands at the end of the steps to a triple."""
    while came[triple] is not None:
        before, maker, lots, index = came[triple]
        parts = walk.choices.least_parts(maker, lots)
        parts[index] = tree
        tree = Tree(maker.name, *parts)
        triple = before
    return tree
