"""Running a state over a tree (points 16, 20 and 21)."""

from treeworks.errors import LimitExceeded
from treeworks.names import is_digit
from treeworks.rows import calls_of, is_call, is_variable
from treeworks.tables import DIGIT
from treeworks.trees import Tree, inner_numbers, places


class StateRun:
    """One run of a state of a stage over a right tree of the kind that it takes.

    The results of states are found from the last place in reading order to the first one, so that nothing is worked
    out twice, and the size is known before the result is built.
    """

    def __init__(self, stage, state, tree):
        self._places = places(tree)
        self._inner = inner_numbers(self._places)
        self._state = state
        self._rows = used_rows(stage, state, self._places, self._inner)

    def result(self):
        """The result, a tree."""
        size, levels = self._folded(size_of_digit, joined_sizes)
        if size > Tree.MOST_NAMES or levels > Tree.MOST_LEVELS:
            raise LimitExceeded("result")
        return self._folded(tree_of_digit, joined_trees)

    def origins(self):
        """For each digit of the result, in reading order, the path of its origin in the tree, or None."""
        return self._folded(origin_of_digit, joined_origins)

    def _folded(self, begin, join):
        """What arises if digits of the tree are begun and nodes and digits of templates are joined in these ways."""
        values = {}
        for number, (path, part) in enumerate(self._places):
            if is_digit(part.name):
                values[(number, DIGIT)] = begin(path, part)
        for number, state in reversed(list(self._rows)):
            row = self._rows[(number, state)]
            numbers = dict(zip(row.variables, self._inner[number]))
            values[(number, state)] = folded(row.template, numbers, values, join)
        return values[(0, self._state)]


def first_row(rows, tree):
    """The index of the first row that suits the tree."""
    for at, row in enumerate(rows):
        if row.suits(tree):
            return at
    return None


def used_rows(stage, start, found, inner):
    """The row that is used at each place (by number) by each state that is called there, in reading order."""
    called = [[] for _ in found]
    called[0].append(start)
    used = {}
    for number, (_, tree) in enumerate(found):
        for name in list(called[number]):
            rows = stage.named(name).rows
            row = rows[first_row(rows, tree)]
            used[(number, name)] = row
            for state, variable in calls_of(row.template):
                part = inner[number][row.variables.index(variable)]
                if state not in called[part]:
                    called[part].append(state)
    return used


def folded(template, numbers, values, join):
    """What a template comes to, with the values of its calls and variables."""
    if is_call(template):
        return values[(numbers[template.parts[0].name], template.name)]
    if is_variable(template):
        return values[(numbers[template.name], DIGIT)]
    return join(template.name, [folded(part, numbers, values, join) for part in template.parts])


def size_of_digit(path, part):
    return 1, 1


def joined_sizes(name, pairs):
    """The size and the levels of a node with parts of these sizes and levels."""
    levels = 0
    for pair in pairs:
        if pair[1] > levels:
            levels = pair[1]
    return 1 + sum([pair[0] for pair in pairs]), 1 + levels


def tree_of_digit(path, part):
    return part


def joined_trees(name, parts):
    return Tree(name, *parts)


def origin_of_digit(path, part):
    return [path]


def joined_origins(name, parts):
    """The origins of all digits of a node; a digit of a template has none."""
    if is_digit(name):
        return [None]
    return [origin for part in parts for origin in part]
