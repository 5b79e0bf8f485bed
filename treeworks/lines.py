"""Finding sure lines (point 37)."""

from treeworks.errors import LimitExceeded
from treeworks.stores import Store
from treeworks.tables import DIGIT
from treeworks.trees import HOLE, Tree

MOST_LINE = 400


class Lines:
    """Finds the sure lines of the reached words of a walk.

    The result of a word for a lot can look like each unfolded tree of the word at a node of this lot. In the store the
    open leaf `w(lot)` stands for the results of the word w for the trees of a lot; so unfolded trees with such leaves
    tell what a result can look like. A sure line is found from its top downwards: if all these trees have the same name
    at the top, it has this name, too, and at each part what is common to these parts of all of them.
    """

    def __init__(self, walk, words):
        self.store = Store()
        self._hole = self.store.node(HOLE, ())
        self._shapes = {}
        self._tops = {}
        self._inner = {}
        for word in words:
            made = walk.choices.made(walk.taken_by(word))
            for lot in made:
                self._shapes[self.store.open_leaf(word, lot)] = self._shapes_of(walk, word, made[lot])
        for leaf in self._shapes:
            self._read_top(leaf)

    def common_line(self, word, lot):
        """The sure line, a tree."""
        rows = [[self.store.open_leaf(word, lot)]]
        names = []
        inner = []
        while len(names) < len(rows):
            name, parts = self._opened(rows[len(names)])
            names.append(name)
            inner.append(list(range(len(rows), len(rows) + len(parts))))
            rows.extend(parts)
            if len(rows) > MOST_LINE:
                raise LimitExceeded("sure")
        trees = {}
        for at in reversed(range(len(names))):
            parts = [trees[number] for number in inner[at]]
            trees[at] = Tree(names[at], *parts)
        return trees[0]

    def _shapes_of(self, walk, word, made):
        """The numbers of what results of a word can look like for nodes of these makers with parts of these lots."""
        found = {}
        for maker, lots in made:
            plan = walk.unfolder.plan(word, maker, lots)
            leaves = []
            for _, inner, index in plan.leaves:
                # All digits are possible.
                leaves.append(self._hole if inner == DIGIT else self.store.open_leaf(inner, lots[index]))
            found[plan.put_into(self.store, leaves)] = True
        return list(found)

    def _read_top(self, leaf):
        """Finds the name that all results of an open leaf have at the top, and what they can have as their parts."""
        shapes = self._closed_shapes(leaf)
        names = [self.store.names[shape] for shape in shapes]
        same = all([name == names[0] for name in names])
        self._tops[leaf] = names[0] if same else HOLE
        inner = [[[kid] for kid in self.store.kids[shape]] for shape in shapes]
        self._inner[leaf] = joined_parts(inner) if same else []

    def _closed_shapes(self, leaf):
        """What results of an open leaf can look like, where an open leaf at the top is exchanged for what it can be."""
        found = {}
        met = {leaf: True}
        waiting = [leaf]
        while waiting:
            here = waiting.pop()
            for shape in self._shapes[here]:
                if not self.store.is_open(shape):
                    found[shape] = True
                elif shape not in met:
                    met[shape] = True
                    waiting.append(shape)
        return list(found)

    def _opened(self, row):
        """The name that everything in a row has at the top, and the rows of its parts; a hole if names differ."""
        tops = [self._top_of(number) for number in row]
        if not all([top == tops[0] for top in tops]):
            return HOLE, []
        inner = []
        for number in row:
            open_parts = self.store.is_open(number)
            inner.append(self._inner[number] if open_parts else [[kid] for kid in self.store.kids[number]])
        return tops[0], joined_parts(inner)

    def _top_of(self, number):
        return self._tops[number] if self.store.is_open(number) else self.store.names[number]


def joined_parts(inner):
    """For each index the row, each number once, of what stands in the rows at this index; there is at least one."""
    joined = []
    for at in range(len(inner[0])):
        found = {}
        for rows in inner:
            for number in rows[at]:
                found[number] = True
        joined.append(list(found))
    return joined
