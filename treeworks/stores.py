"""Trees by numbers, with equal parts shared, so that very large ones can be made and compared."""

from treeworks.names import is_small_letter
from treeworks.trees import HOLE, Tree, inner_numbers, places


class Store:
    """Holds trees: equal ones have the same number, and parts have lower numbers than what they are parts of.

    The names, the numbers of the parts, the sizes and the levels are lists by these numbers.
    """

    def __init__(self):
        self.names = []
        self.kids = []
        self.sizes = []
        self.heights = []
        self._numbers = {}

    def node(self, name, kids):
        """The number of the tree with this name and a tuple of numbers of parts."""
        key = (name, kids)
        if key not in self._numbers:
            self._numbers[key] = len(self.names)
            self.names.append(name)
            self.kids.append(kids)
            self.sizes.append(1 + sum([self.sizes[kid] for kid in kids]))
            self.heights.append(1 + self._greatest_height(kids))
        return self._numbers[key]

    def _greatest_height(self, kids):
        most = 0
        for kid in kids:
            if self.heights[kid] > most:
                most = self.heights[kid]
        return most

    def open_leaf(self, word, index):
        """The number of `word(index)`: something that is not known of the part with this index."""
        return self.node(word, (self.node(str(index), ()),))

    def is_open(self, number):
        """True for the numbers that `open_leaf` returns."""
        name = self.names[number]
        return name == "" or is_small_letter(name[0])

    def index_of(self, number):
        """The index of an open leaf."""
        return int(self.names[self.kids[number][0]])

    def is_large(self, number):
        """True if a result may not be so large."""
        return self.sizes[number] > Tree.MOST_NAMES or self.heights[number] > Tree.MOST_LEVELS

    def descended(self, number, path):
        """Goes down the path until it ends or an open leaf is met: the number there, and the rest of the path."""
        for depth, at in enumerate(path):
            if self.is_open(number):
                return number, path[depth:]
            number = self.kids[number][at]
        return number, ()


class Plan:
    """How a tree of a store is put together from its open leaves.

    It has a tuple `(number, word, index)` for each open leaf, and `(number, name, kids)` for each other part.
    """

    def __init__(self, store, number):
        self.top = number
        self.leaves = []
        self.nodes = []
        for part in numbers_in(store, number):
            if store.is_open(part):
                self.leaves.append((part, store.names[part], store.index_of(part)))
            else:
                self.nodes.append((part, store.names[part], store.kids[part]))

    def put_into(self, store, leaves):
        """The number in the store of this tree with the trees of these numbers in the place of its open leaves."""
        numbers = {leaf[0]: number for leaf, number in zip(self.leaves, leaves)}
        for part, name, kids in self.nodes:
            numbers[part] = store.node(name, tuple([numbers[kid] for kid in kids]))
        return numbers[self.top]


class Meeting:
    """Finds common parts of the trees of a store."""

    def __init__(self, store):
        self._store = store
        self._hole = store.node(HOLE, ())
        self._known = {}

    def common(self, first, second):
        """The number of the common part of two trees."""
        if first == second:
            return first
        key = (first, second)
        if key not in self._known:
            self._known[key] = self._worked(first, second)
        return self._known[key]

    def _worked(self, first, second):
        store = self._store
        # Both are results by one table, so with the same name they have the same number of parts.
        if store.names[first] != store.names[second]:
            return self._hole
        kids = []
        for kid, twin in zip(store.kids[first], store.kids[second]):
            kids.append(self.common(kid, twin))
        return store.node(store.names[first], tuple(kids))


def numbers_in(store, number):
    """The numbers of all parts of a tree, ascending; what is in open leaves is left out."""
    found = {number: True}
    waiting = [number]
    while waiting:
        part = waiting.pop()
        if store.is_open(part):
            continue
        for kid in store.kids[part]:
            if kid not in found:
                found[kid] = True
                waiting.append(kid)
    return sorted([int(part) for part in found])


def tree_of(store, number):
    """The tree with this number."""
    trees = {}
    for part in numbers_in(store, number):
        if store.is_open(part):
            trees[part] = Tree(store.names[part], Tree(str(store.index_of(part))))
        else:
            inner = [trees[kid] for kid in store.kids[part]]
            trees[part] = Tree(store.names[part], *inner)
    return trees[number]


def stored_tree(store, tree, open_holes):
    """The number of a tree of which each hole is exchanged, in reading order, for the tree of the next number."""
    found = places(tree)
    inner = inner_numbers(found)
    numbers = [0 for _ in found]
    left = len(open_holes)
    for at in reversed(range(len(found))):
        part = found[at][1]
        if part.name == HOLE and left > 0:
            left -= 1
            numbers[at] = open_holes[left]
        else:
            numbers[at] = store.node(part.name, tuple([numbers[kid] for kid in inner[at]]))
    return numbers[0]


class Covering:
    """Tells whether trees of a store cover others."""

    def __init__(self, store):
        self._store = store
        self._known = {}

    def covers(self, first, second):
        """True if the first tree covers the second one."""
        store = self._store
        if first == second or store.names[first] == HOLE:
            return True
        key = (first, second)
        if key not in self._known:
            kids, others = store.kids[first], store.kids[second]
            alike = store.names[first] == store.names[second] and len(kids) == len(others)
            self._known[key] = alike and all([self.covers(kid, other) for kid, other in zip(kids, others)])
        return self._known[key]
