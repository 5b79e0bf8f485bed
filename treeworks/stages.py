"""Stages and their states (points 16 to 18)."""

from treeworks.algebras import LotTable
from treeworks.checks import check_cover, check_states, read_rows
from treeworks.errors import BadCount, BadLine, BadName, Unknown
from treeworks.names import fields_of, is_small_name
from treeworks.runs import StateRun, first_row
from treeworks.sights import Sights


class State:
    """A state of a stage."""

    def __init__(self, name, takes, gives, rows):
        self.name = name
        self.takes = takes
        self.gives = gives
        self.rows = rows


class Stage:
    """A stage; it does not change."""

    MOST_STATES = 4
    MOST_ROWS = 8

    def __init__(self, name, source, target, *states):
        if not is_small_name(name):
            raise BadName(name)
        if not 1 <= len(states) <= Stage.MOST_STATES:
            raise BadCount(len(states))
        check_states(source, target, states, Stage.MOST_ROWS)
        made = []
        for state, takes, gives, written in states:
            rows = read_rows(source, target, states, state, takes, gives, written)
            made.append(State(state, takes, gives, rows))
        self.name = name
        self.source = source
        self.target = target
        self.states = tuple(made)
        self.start = made[0].name
        self.sights = Sights(source, [row for other in made for row in other.rows])
        self.description = description_of(name, source, target, made)
        check_cover(made, LotTable(source, self.sights))

    @classmethod
    def read(cls, description, *tables):
        """The stage with this description, for which the tables are known."""
        lines = description.split("\n")
        name, source, target = read_head(lines, 1, "stage")
        states = []
        for at, line in enumerate(lines[1:]):
            if line.startswith("state ") or at == 0:
                state, takes, gives = read_head(lines, at + 2, "state")
                states.append((state, takes, gives, []))
            elif " => " in line:
                states[-1][3].append(line)
            else:
                raise BadLine(at + 2)
        return cls(name, table_named(source, tables), table_named(target, tables), *states)

    def named(self, state):
        """The state with this name."""
        for other in self.states:
            if other.name == state:
                return other
        raise Unknown(state)

    def choice(self, state, tree):
        """The index of the row that the state uses for the tree."""
        found = self.named(state)
        self.source.check(tree, found.takes)
        return first_row(found.rows, tree)

    def run(self, state, tree):
        """The result of the state for the tree."""
        self.source.check(tree, self.named(state).takes)
        return StateRun(self, state, tree).result()

    def __call__(self, tree):
        """The result of the start."""
        return self.run(self.start, tree)


def read_head(lines, number, word):
    """The name and the two other names of the line with this number, which begins with the word."""
    fields = fields_of(lines[number - 1])
    if len(fields) != 5 or fields[0] != word or not fields[1].endswith(":") or fields[3] != "->":
        raise BadLine(number)
    return fields[1][:-1], fields[2], fields[4]


def table_named(name, tables):
    """The first of the tables that has this name."""
    for table in tables:
        if table.name == name:
            return table
    raise Unknown(name)


def description_of(name, source, target, states):
    lines = [f"stage {name}: {source.name} -> {target.name}"]
    for state in states:
        lines.append(f"state {state.name}: {state.takes} -> {state.gives}")
        lines.extend([row.written for row in state.rows])
    return "\n".join(lines)
