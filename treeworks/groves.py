"""Groves: whole trees of one table with equal parts shared (points 56 and 57)."""

from treeworks.errors import BadIndex, LimitExceeded, Mismatch, NoPlace, WrongTree
from treeworks.names import is_digit
from treeworks.trees import Tree

MOST_WINDOW = 400


class Grove:
    """Stores trees by numbers. Where a part of an entry can be a digit, it is the string of one character.

    Texts and trees can be very large, so all questions are answered from the numbers that are kept for each entry.
    """

    def __init__(self, table):
        self.table = table
        self._entries = []
        self._sizes = []
        self._heights = []
        self._lengths = []
        self._numbers = {}

    @property
    def entries(self):
        """The number of entries."""
        return len(self._entries)

    def put(self, tree):
        """Puts a whole right tree into the grove; returns the number of its entry."""
        if tree.name not in self.table:
            raise WrongTree(())
        self.table.check(tree, self.table.maker(tree.name).kind)
        made = []
        waiting = [(tree, False)]
        while waiting:
            part, entered = waiting.pop()
            if is_digit(part.name):
                made.append(part.name)
            elif entered:
                first = len(made) - len(part.parts)
                inner = tuple(made[first:])
                del made[first:]
                made.append(self.stored(part.name, inner))
            else:
                waiting.append((part, True))
                waiting.extend([(kid, False) for kid in part.parts[::-1]])
        return made[0]

    def stored(self, name, parts):
        """The number of the entry of a maker with these parts, which are known to be right; it may be a new one."""
        key = (name, parts)
        if key not in self._numbers:
            self._numbers[key] = len(self._entries)
            self._entries.append(key)
            inner = [part for part in parts if not isinstance(part, str)]
            digits = len(parts) - len(inner)
            form = self.table.maker(name).form
            self._sizes.append(1 + digits + sum([self._sizes[part] for part in inner]))
            self._lengths.append(len(form) - len(inner) + sum([self._lengths[part] for part in inner]))
            self._heights.append(1 + greatest([self._heights[part] for part in inner], 1 if digits > 0 else 0))
        return self._numbers[key]

    def entry(self, number):
        """The maker and the parts of an entry."""
        self._check(number)
        return self._entries[number]

    def kind_of(self, number):
        """The kind of the maker of an entry."""
        self._check(number)
        return self.table.maker(self._entries[number][0]).kind

    def size_of(self, number):
        """The size of an entry."""
        self._check(number)
        return self._sizes[number]

    def levels_of(self, number):
        """The levels of an entry."""
        self._check(number)
        return self._heights[number]

    def length_of(self, number):
        """The length of the text of an entry."""
        self._check(number)
        return self._lengths[number]

    def unfolded(self, number):
        """The tree of an entry."""
        self._check(number)
        if self._sizes[number] > Tree.MOST_NAMES or self._heights[number] > Tree.MOST_LEVELS:
            raise LimitExceeded("result")
        trees = {}
        for part in self.needed_for(number):
            name, parts = self._entries[part]
            inner = [Tree(kid) if isinstance(kid, str) else trees[kid] for kid in parts]
            trees[part] = Tree(name, *inner)
        return trees[number]

    def sign_at(self, number, index):
        """The character at an index of the text of an entry."""
        return self._found_at(number, index)[1]

    def path_at(self, number, index):
        """The path of the place to which the character at an index of the text belongs."""
        return self._found_at(number, index)[0]

    def window(self, number, start, stop):
        """A part of the text of an entry."""
        self._check(number)
        if not 0 <= start <= self._lengths[number]:
            raise BadIndex(start)
        if not start <= stop <= self._lengths[number]:
            raise BadIndex(stop)
        if stop - start > MOST_WINDOW:
            raise LimitExceeded("window")
        signs = []
        left = start
        waiting = [number]
        while len(signs) < stop - start:
            piece = waiting.pop()
            if left >= self.length_of_piece(piece):
                left -= self.length_of_piece(piece)
            elif isinstance(piece, str):
                signs.append(piece)
            else:
                waiting.extend([inner for _, inner in self.pieces(piece)[::-1]])
        return "".join(signs)

    def stretch_of(self, number, path):
        """The start and the end of the text of the part at a path."""
        self._check(number)
        start = 0
        here = number
        for at in path:
            if isinstance(here, str) or not 0 <= at < len(self._entries[here][1]):
                raise NoPlace(path)
            for index, piece in self.pieces(here):
                if index == at:
                    here = piece
                    break
                start += self.length_of_piece(piece)
        return start, start + self.length_of_piece(here)

    def part_at(self, number, path):
        """The number of the entry of the part at a path."""
        self._check(number)
        return self._frames(number, path)[-1]

    def exchanged(self, number, path, part):
        """The number of the entry in which the entry `part` stands at a path; it may be a new one."""
        self._check(number)
        self._check(part)
        frames = self._frames(number, path)
        if self.kind_of(part) != self.kind_of(frames[-1]):
            raise Mismatch()
        for depth in reversed(range(len(path))):
            name, parts = self._entries[frames[depth]]
            inner = list(parts)
            inner[path[depth]] = part
            part = self.stored(name, tuple(inner))
        return part

    def needed_for(self, number):
        """The list of the entries that an entry needs, itself included, in the order in which its nodes are left."""
        order = []
        done = {}
        waiting = [(number, False)]
        while waiting:
            part, entered = waiting.pop()
            if isinstance(part, str) or part in done:
                continue
            if entered:
                done[part] = True
                order.append(part)
            else:
                waiting.append((part, True))
                waiting.extend([(kid, False) for kid in self._entries[part][1][::-1]])
        return order

    def pieces(self, number):
        """What the text of an entry consists of: pairs of an index and the part there, or of -1 and a sign."""
        name, parts = self._entries[number]
        found = []
        for sign in self.table.maker(name).form:
            at = int(sign) - 1 if is_digit(sign) else -1
            found.append((at, parts[at] if at >= 0 else sign))
        return found

    def length_of_piece(self, piece):
        """The length of the text of a part, which is one for a digit, or of a sign."""
        return 1 if isinstance(piece, str) else self._lengths[piece]

    def _check(self, number):
        if not 0 <= number < len(self._entries):
            raise BadIndex(number)

    def _frames(self, number, path):
        """The entries on the way along a path, the one at its end included."""
        frames = [number]
        for at in path:
            parts = self._entries[frames[-1]][1]
            if not 0 <= at < len(parts) or isinstance(parts[at], str):
                raise NoPlace(path)
            frames.append(parts[at])
        return frames

    def _found_at(self, number, index):
        """The path to which the character at an index of the text belongs, and this character."""
        self._check(number)
        if not 0 <= index < self._lengths[number]:
            raise BadIndex(index)
        path = []
        left = index
        here = number
        while not isinstance(here, str):
            for at, piece in self.pieces(here):
                if left < self.length_of_piece(piece):
                    here = piece
                    if at >= 0:
                        path.append(at)
                    break
                left -= self.length_of_piece(piece)
        return tuple(path), here


def greatest(numbers, least):
    """The greatest of the numbers and of one more."""
    found = least
    for number in numbers:
        if number > found:
            found = number
    return found
