"""The rows of states (point 15)."""

from treeworks.errors import BadTerm
from treeworks.names import is_big_name, is_digit, is_small_name
from treeworks.trees import HOLE, MOST_PARTS, Tree, is_hole, places, written_tree


class Row:
    """A row: what its head asks of a tree, and the template of the result."""

    def __init__(self, written, head, variables, guards, template):
        self.written = written
        self.head = head
        self.variables = variables
        self.guards = guards
        self.template = template

    @classmethod
    def read(cls, written):
        """The row that is written so."""
        # Without an arrow nothing is left for the template.
        left, _, right = written.partition(" => ")
        head = written_tree(left)
        template = written_tree(right)
        if head is None or template is None or not is_template(template):
            raise BadTerm(written)
        if is_hole(head):
            return cls(written, HOLE, (), (), template)
        pairs = [asked_of(part) for part in head.parts]
        if not is_node(head) or None in pairs:
            raise BadTerm(written)
        variables = tuple([variable for variable, _ in pairs])
        guards = tuple([guard for _, guard in pairs])
        return cls(written, head.name, variables, guards, template)

    def suits(self, tree):
        """True if the row suits the tree."""
        if self.head == HOLE:
            return True
        if self.head != tree.name:
            return False
        return all([guard.covers(part) for guard, part in zip(self.guards, tree.parts)])


def is_node(tree):
    """True if a node may look so: with a big name above at most three parts."""
    return is_big_name(tree.name) and len(tree.parts) <= MOST_PARTS


def is_guard(tree):
    """True if the tree has a big name at the top and no digits."""
    return is_node(tree) and all([is_node(part) or is_hole(part) for _, part in places(tree)])


def asked_of(part):
    """The variable and the guard that a part of a head writes, or None if it writes nothing of that kind."""
    if is_hole(part):
        return "", part
    if is_variable(part):
        return part.name, Tree(HOLE)
    variable, colon, name = part.name.partition(":")
    if not colon:
        return ("", part) if is_guard(part) else None
    guard = Tree(name, *part.parts)
    return (variable, guard) if is_small_name(variable) and is_guard(guard) else None


def is_variable(template):
    return is_small_name(template.name) and not template.parts


def is_call(template):
    """True if the template is a small name with one part, which is a variable."""
    return is_small_name(template.name) and len(template.parts) == 1 and is_variable(template.parts[0])


def is_template(tree):
    if is_variable(tree) or is_call(tree):
        return True
    if is_digit(tree.name):
        return not tree.parts
    return is_node(tree) and all([is_template(part) for part in tree.parts])


def calls_of(template):
    """The list of the pairs of a state and a variable that the calls of a template have, in reading order."""
    if is_call(template):
        return [(template.name, template.parts[0].name)]
    return [call for part in template.parts for call in calls_of(part)]
