"""How often digits are copied, and how many places an exchange that keeps the lots can change (points 54 and 55)."""

from treeworks.errors import LimitExceeded
from treeworks.flows import MOST_LOADS, Flow, after_letter, around, explored, place_behind
from treeworks.graphs import first_of, labels_to
from treeworks.growing import Growing
from treeworks.sure import Sure
from treeworks.tables import DIGIT
from treeworks.trees import HOLE, Tree


def copies(pipeline):
    """The greatest number of copies of one digit, or None if there is none."""
    return greatest_worth(Flow(Sure(pipeline), True))


def spread(pipeline):
    """The greatest spread of one place, or None if there is none."""
    return greatest_worth(Flow(Sure(pipeline), False))


def copying(pipeline, number):
    """A tree and the path of a digit that has at least so many copies, or None if there are none."""
    return place_of_worth(Flow(Sure(pipeline), True), number)


def spreading(pipeline, number):
    """A tree and a path with a spread of at least this number, or None if there are none."""
    return place_of_worth(Flow(Sure(pipeline), False), number)


def growth(pipeline, *, digits=False):
    """A context, a loop, a part and a path in it that show that there is no greatest spread; None if there is one.

    With `digits`, that there is no greatest number of copies.
    """
    flow = Flow(Sure(pipeline), digits)
    grown = None if len(explored(flow)) <= MOST_LOADS else growing_steps(flow)
    if grown is None:
        return None
    top, way, loop, inner = grown
    part, path = place_behind(flow, inner, last_site(top, [*way, *inner]))
    return around(flow, way, Tree(HOLE)), around(flow, loop, Tree(HOLE)), part, path


def greatest_worth(flow):
    """The greatest worth of a load, or None if there is none."""
    came = explored(flow)
    if len(came) > MOST_LOADS:
        if growing_steps(flow) is None:
            raise LimitExceeded("loads")
        return None
    most = 0
    for load in came:
        if flow.worth(load) > most:
            most = flow.worth(load)
    return most


def place_of_worth(flow, number):
    """A tree and a path at which the load is worth at least this number, or None."""
    came = explored(flow)
    grown = growing_steps(flow) if len(came) > MOST_LOADS else None
    if len(came) > MOST_LOADS and grown is None:
        raise LimitExceeded("loads")
    # The loads that are near to the top need the smallest trees.
    for load in came:
        if flow.counts_place(load) and flow.worth(load) >= number:
            return place_behind(flow, labels_to(came, load), load[0])
    return None if grown is None else looped_place(flow, grown, number)


def looped_place(flow, grown, number):
    """As `place_of_worth`, with as many loops of what grows as are needed."""
    top, way, loop, inner = grown
    letters = list(way)
    while flow.worth(load_behind(top, [*letters, *inner])) < number:
        letters.extend(loop)
    return place_behind(flow, [*letters, *inner], last_site(top, [*way, *inner]))


def load_behind(load, letters):
    """The load to which the steps of these letters lead from another one."""
    for letter in letters:
        load = after_letter(load, letter)
    return load


def last_site(load, letters):
    """The site to which the steps of these letters lead from a load."""
    return letters[-1].target if letters else load[0]


def growing_steps(flow):
    """The load of a whole tree, the letters of a way from it to a loop, of the loop, and of a way from it to a place.

    With each loop the load of the place is worth more. None if there is no such loop.
    """
    growing = Growing(flow)
    found = growing.witness()
    if found is None:
        return None
    state, loop, word = found
    first = growing.states[first_of(growing.came, state)][0]
    top = [load for load in flow.starts() if load[0] == first][0]
    inner = letters_to_digit(flow, (growing.states[state][0], word)) if flow.digits else []
    return top, labels_to(growing.came, state), loop, inner


def letters_to_digit(flow, start):
    """The letters of a way to a digit that has a copy in the result of a word for a site."""
    came = {start: None}
    waiting = [start]
    at = 0
    while waiting[at][0][0] != DIGIT:
        site, word = waiting[at]
        place = flow.live_words(site).index(word)
        for letter in flow.letters(site):
            for other, row in zip(flow.live_words(letter.target), letter.rows):
                below = (letter.target, other)
                if below not in came and place in [number for number, _ in row]:
                    came[below] = (waiting[at], letter)
                    waiting.append(below)
        at += 1
    return labels_to(came, waiting[at])
