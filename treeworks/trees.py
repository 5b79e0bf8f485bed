"""Trees, their terms, their order and their places (points 4 to 7)."""

from treeworks.errors import BadCount, BadTerm, NoPlace
from treeworks.names import is_big_name, is_digit

HOLE = "_"
MOST_PARTS = 3


class Tree:
    """A tree with a name and parts; it does not change."""

    MOST_NAMES = 2000
    MOST_LEVELS = 60

    def __init__(self, name, *parts):
        self.name = name
        self.parts = parts
        self.size = 1 + sum([part.size for part in parts])
        self.levels = 1 + most_levels(parts)
        terms = ", ".join([part.term for part in parts])
        self.term = f"{name}({terms})" if parts else name
        self._gaps = 1 if name == HOLE and not parts else sum([part._gaps for part in parts])

    @classmethod
    def read(cls, term):
        """The tree with this term."""
        tree = written_tree(term)
        if tree is None or not all([is_plain(part) for _, part in places(tree)]):
            raise BadTerm(term)
        return tree

    @property
    def whole(self):
        """True if there is no hole in the tree."""
        return self._gaps == 0

    def __eq__(self, other):
        if not isinstance(other, Tree):
            return NotImplemented
        return (self.size, self.term) == (other.size, other.term)

    def __lt__(self, other):
        if not isinstance(other, Tree):
            return NotImplemented
        return (self.size, self.term) < (other.size, other.term)

    def __le__(self, other):
        if not isinstance(other, Tree):
            return NotImplemented
        return (self.size, self.term) <= (other.size, other.term)

    def __and__(self, other):
        """The common part of both trees."""
        if not isinstance(other, Tree):
            return NotImplemented
        # Two holes agree, and a hole differs in its name from everything else.
        if self.name != other.name or len(self.parts) != len(other.parts):
            return Tree(HOLE)
        parts = [part & twin for part, twin in zip(self.parts, other.parts)]
        return Tree(self.name, *parts)

    def covers(self, other):
        """True if the other tree arises from this one by exchanging holes."""
        if is_hole(self):
            return True
        if self.name != other.name or len(self.parts) != len(other.parts):
            return False
        return all([part.covers(twin) for part, twin in zip(self.parts, other.parts)])

    def __contains__(self, path):
        """True if the path leads to a place."""
        here = self
        for at in path:
            if not 0 <= at < len(here.parts):
                return False
            here = here.parts[at]
        return True

    def __getitem__(self, path):
        """The part to which the path leads."""
        here = self
        for at in path:
            if not 0 <= at < len(here.parts):
                raise NoPlace(path)
            here = here.parts[at]
        return here

    def __iter__(self):
        return iter(self.parts)

    def paths(self):
        """Yields the paths of all places in reading order."""
        for path, _ in places(self):
            yield path

    def exchanged(self, path, part):
        """The tree with the part at the path."""
        if path not in self:
            raise NoPlace(path)
        above = [self]
        for at in path:
            above.append(above[-1].parts[at])
        tree = part
        for depth in reversed(range(len(path))):
            parts = list(above[depth].parts)
            parts[path[depth]] = tree
            tree = Tree(above[depth].name, *parts)
        return tree

    def holes(self):
        """The paths of the holes in reading order."""
        return [path for path, part in places(self) if is_hole(part)]

    def filled(self, *trees):
        """The tree with these trees in its holes, which are taken in reading order."""
        if len(trees) != self._gaps:
            raise BadCount(len(trees))
        if is_hole(self):
            return trees[0]
        parts = []
        at = 0
        for part in self.parts:
            some = trees[at:at + part._gaps]
            parts.append(part.filled(*some))
            at += part._gaps
        return Tree(self.name, *parts)

    def recoded(self, code):
        """The tree in which each digit is exchanged by the code."""
        if is_digit(self.name):
            return Tree(code[int(self.name)])
        parts = [part.recoded(code) for part in self.parts]
        return Tree(self.name, *parts)


def is_hole(tree):
    return tree.name == HOLE and not tree.parts


def is_plain(tree):
    """True if the name of the tree can stand in a term, above as many parts."""
    if tree.name == HOLE or is_digit(tree.name):
        return not tree.parts
    return is_big_name(tree.name) and len(tree.parts) <= MOST_PARTS


def most_levels(trees):
    """The most levels of one of the trees, 0 if there is none."""
    most = 0
    for tree in trees:
        if tree.levels > most:
            most = tree.levels
    return most


def places(tree):
    """The list of the pairs of a path and the part there, in reading order."""
    found = []
    waiting = [((), tree)]
    while waiting:
        path, part = waiting.pop()
        found.append((path, part))
        for at in reversed(range(len(part.parts))):
            waiting.append(((*path, at), part.parts[at]))
    return found


def inner_numbers(found):
    """For each of the places of a tree, by its number in reading order, the list of the numbers of its parts."""
    inner = []
    for number, (_, tree) in enumerate(found):
        numbers = []
        at = number + 1
        for part in tree.parts:
            numbers.append(at)
            at += part.size
        inner.append(numbers)
    return inner


def in_order(trees):
    """The list of these trees in ascending order, equal ones once."""
    by_rank = {f"{tree.size:>9} {tree.term}": tree for tree in trees}
    return [by_rank[rank] for rank in sorted([str(key) for key in by_rank])]


def name_end(text, start):
    """The index behind the name that begins at the start."""
    end = start
    while end < len(text) and text[end] not in "(), ":
        end += 1
    return end


def written_tree(text):
    """The tree with this term, whatever names stand in it, or None if the text has not the form of a term."""
    above = []
    at = 0
    while True:
        end = name_end(text, at)
        if end == at:
            return None
        name = text[at:end]
        if text[end:end + 1] == "(":
            above.append((name, []))
            at = end + 1
            continue
        tree = Tree(name)
        at = end
        while above and text[at:at + 1] == ")":
            name, parts = above.pop()
            parts.append(tree)
            tree = Tree(name, *parts)
            at += 1
        if not above:
            return tree if at == len(text) else None
        if text[at:at + 2] != ", ":
            return None
        above[-1][1].append(tree)
        at += 2
