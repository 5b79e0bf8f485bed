"""Whether two trees have the same lot (point 27), without a bound for the number of lots."""

from treeworks.names import is_digit
from treeworks.onwards import fitting_row
from treeworks.rows import is_call, is_variable
from treeworks.trees import inner_numbers, places


class Meanings:
    """Numbers the lots of the stages from each one on, as trees of them are met.

    What is known of a tree is the same as in `Onward`: the terms of the looks that cover it, and the results of states.
    """

    def __init__(self, stages):
        self._stages = stages
        self._known = [[] for _ in stages]
        self._numbers = [{} for _ in stages]
        self._met = [{} for _ in stages]

    def of_tree(self, tree):
        """The number of the lot of a tree, for all stages."""
        found = places(tree)
        inner = inner_numbers(found)
        numbers = [0 for _ in found]
        for at in reversed(range(len(found))):
            numbers[at] = self.of_node(0, found[at][1].name, tuple([numbers[kid] for kid in inner[at]]))
        return numbers[0]

    def of_node(self, at, name, parts):
        """The number of the lot of a node, for the stages from this index on, if its parts have these numbers."""
        key = (name, parts)
        if key not in self._met[at]:
            known = self._worked(at, name, [self._known[at][part] for part in parts])
            if known not in self._numbers[at]:
                self._numbers[at][known] = len(self._known[at])
                self._known[at].append(known)
            self._met[at][key] = self._numbers[at][known]
        return self._met[at][key]

    def _worked(self, at, name, parts):
        """What is known of a node if this is known of its parts."""
        if is_digit(name):
            return (), ()
        stage = self._stages[at]
        maker = stage.source.maker(name)
        seen = [terms for terms, _ in parts]
        pairs = []
        for state in stage.states:
            if state.takes == maker.kind and at + 1 < len(self._stages):
                row = fitting_row(state, name, seen)
                bound = {variable: dict(results) for variable, (_, results) in zip(row.variables, parts)}
                pairs.append((state.name, self._of_template(at + 1, row.template, bound)))
        return stage.sights.node_mark(maker, seen), tuple(pairs)

    def _of_template(self, at, template, bound):
        """The number of the lot of a template, where `bound` has the results of states for each variable."""
        if is_call(template):
            return bound[template.parts[0].name][template.name]
        if is_variable(template):
            # All digits have the same lot.
            return self.of_node(at, "0", ())
        parts = [self._of_template(at, part, bound) for part in template.parts]
        return self.of_node(at, template.name, tuple(parts))


def have_same_lot(stages, first, second):
    """True if the two trees have the same lot of these stages."""
    meanings = Meanings(stages)
    return meanings.of_tree(first) == meanings.of_tree(second)
