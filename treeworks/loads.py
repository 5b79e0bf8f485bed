"""How often digits are copied, and how many places an exchange that keeps the lots can change (points 54 and 55)."""

from treeworks.errors import LimitExceeded
from treeworks.flows import MOST_LOADS, Flow, climbed, explored, node_around
from treeworks.growing import Growing
from treeworks.sure import Sure
from treeworks.tables import DIGIT
from treeworks.trees import HOLE, Tree


def copies(pipeline):
    """The greatest number of copies of one digit, or None if there is none."""
    return greatest_worth(Flow(Sure(pipeline), True))


def spread(pipeline):
    """The greatest spread of one place, or None if there is none."""
    return greatest_worth(Flow(Sure(pipeline), False))


def copying(pipeline, number):
    """A tree and the path of a digit that has at least so many copies, or None if there are none."""
    return place_of_worth(Flow(Sure(pipeline), True), number)


def spreading(pipeline, number):
    """A tree and a path with a spread of at least this number, or None if there are none."""
    return place_of_worth(Flow(Sure(pipeline), False), number)


def growth(pipeline, *, digits=False):
    """A context, a loop, a part and a path in it that show that there is no greatest spread; None if there is one.

    With `digits`, that there is no greatest number of copies.
    """
    flow = Flow(Sure(pipeline), digits)
    return None if len(explored(flow)) <= MOST_LOADS else growth_of(flow)


def greatest_worth(flow):
    """The greatest worth of a load, or None if there is none."""
    came = explored(flow)
    if len(came) > MOST_LOADS:
        if growth_of(flow) is None:
            raise LimitExceeded("loads")
        return None
    most = 0
    for load in came:
        if flow.worth(load) > most:
            most = flow.worth(load)
    return most


def place_of_worth(flow, number):
    """A tree and a path at which the load is worth at least this number, or None."""
    came = explored(flow)
    grown = None
    if len(came) > MOST_LOADS:
        grown = growth_of(flow)
        if grown is None:
            raise LimitExceeded("loads")
    # The loads that are near to the top need the smallest trees.
    for load in came:
        if flow.counts_place(load) and flow.worth(load) >= number:
            return climbed(flow, came, load, flow.least(load[0]))
    return None if grown is None else looped(grown, number)


def looped(grown, number):
    """The tree in which the part of a growth stands in so many loops, and the path of the place that grows."""
    way, loop, part, path = grown
    tree = part
    for _ in range(number):
        tree = loop.filled(tree)
        path = (*loop.holes()[0], *path)
    return way.filled(tree), (*way.holes()[0], *path)


def growth_of(flow):
    """As `growth`, for the flow of a pipeline."""
    growing = Growing(flow)
    found = growing.witness()
    if found is None:
        return None
    state, letters, word = found
    way = climbed(flow, growing.came, state, Tree(HOLE))[0]
    loop = Tree(HOLE)
    for letter in letters[::-1]:
        loop = node_around(flow, letter, loop)
    site = growing.states[state][0]
    if not flow.digits:
        return way, loop, flow.least(site), ()
    part, path = copied_part(flow, site, word)
    return way, loop, part, path


def copied_part(flow, site, word):
    """A tree of a site and the path of a digit in it that has a copy in the result of a word."""
    came = {(site, word): None}
    waiting = [(site, word)]
    at = 0
    while waiting[at][0][0] != DIGIT:
        here, name = waiting[at]
        for letter in flow.letters(here):
            for other, row in zip(flow.live_words(letter.target), letter.rows):
                below = (letter.target, other)
                if below not in came and flow.live_words(here).index(name) in [place for place, _ in row]:
                    came[below] = (waiting[at], letter)
                    waiting.append(below)
        at += 1
    return climbed(flow, came, waiting[at], flow.least(waiting[at][0]))
