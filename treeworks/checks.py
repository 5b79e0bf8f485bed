"""The checks of the states and rows of a stage (point 17)."""

from treeworks.algebras import combined
from treeworks.errors import BadRow, BadState, BadTerm, Uncovered
from treeworks.names import is_digit, is_small_name
from treeworks.rows import Row, is_call, is_variable
from treeworks.tables import DIGIT
from treeworks.trees import HOLE, Tree, is_hole


def check_states(source, target, states, most_rows):
    """Raises an error for the first state that has a fault besides those of its rows."""
    for index, (name, takes, gives, rows) in enumerate(states):
        if not is_small_name(name):
            raise BadState(index, "name")
        if any([name == other[0] for other in states[:index]]):
            raise BadState(index, "repeated")
        if takes not in source.kinds:
            raise BadState(index, "takes")
        if gives != DIGIT and gives not in target.kinds:
            raise BadState(index, "gives")
        if gives == DIGIT and index == 0:
            raise BadState(index, "start")
        if not 1 <= len(rows) <= most_rows:
            raise BadState(index, "rows")


def read_rows(source, target, states, name, takes, gives, written):
    """The tuple of the rows of a state; raises an error for the first one that has a fault."""
    calls = {state: (other_takes, other_gives) for state, other_takes, other_gives, _ in states}
    rows = []
    for at, text in enumerate(written):
        row = read_row(name, at, text)
        if not is_right_head(source, takes, row):
            raise BadRow(name, at, "head")
        variables = [variable for variable in row.variables if variable]
        if any([variables.count(variable) > 1 for variable in variables]):
            raise BadRow(name, at, "variables")
        wants = source.maker(row.head).wants if row.head != HOLE else ()
        bound = {variable: want for variable, want in zip(row.variables, wants) if variable}
        if not is_right_template(target, row.template, gives, bound, calls):
            raise BadRow(name, at, "template")
        rows.append(row)
    return tuple(rows)


def read_row(state, at, text):
    try:
        return Row.read(text)
    except BadTerm:
        raise BadRow(state, at, "text") from None


def is_right_head(source, takes, row):
    """True if the head is `_` or fits the nodes of a maker of the kind."""
    if row.head == HOLE:
        return True
    if row.head not in source or source.maker(row.head).kind != takes:
        return False
    wants = source.maker(row.head).wants
    if len(wants) != len(row.guards):
        return False
    return all([source.fits(guard, want, holes=True) for guard, want in zip(row.guards, wants)])


def is_right_template(target, template, due, bound, calls):
    """True if the template is right where this kind is due.

    The kinds of the parts for which the variables stand are in `bound`, and what the states take and give in `calls`.
    """
    if is_call(template):
        variable = template.parts[0].name
        if template.name not in calls or variable not in bound:
            return False
        return calls[template.name] == (bound[variable], due)
    if is_variable(template):
        return due == DIGIT and bound.get(template.name, "") == DIGIT
    if due == DIGIT:
        return is_digit(template.name)
    if template.name not in target or target.maker(template.name).kind != due:
        return False
    wants = target.maker(template.name).wants
    if len(wants) != len(template.parts):
        return False
    return all([is_right_template(target, part, want, bound, calls) for part, want in zip(template.parts, wants)])


def check_cover(states, lots):
    """Raises an error for the first state for which no row suits some right tree."""
    for state in states:
        tree = least_unsuited(state, lots)
        if tree is not None:
            raise Uncovered(state.name, tree)


def least_unsuited(state, lots):
    """The least tree that no row of the state suits, or None."""
    least = None
    for maker in lots.table.makers(state.takes):
        rows = [row for row in state.rows if row.head == HOLE or row.head == maker.name]
        if any([all([is_hole(guard) for guard in row.guards]) for row in rows]):
            continue
        # Whether a row suits depends on the lots of the parts only, so their least trees stand for all others.
        trees = [[lots.least(want, lot) for lot in range(lots.many(want))] for want in maker.wants]
        for parts in combined(trees):
            tree = Tree(maker.name, *parts)
            if not any([row.suits(tree) for row in rows]) and (least is None or tree < least):
                least = tree
    return least
