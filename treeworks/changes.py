"""The differences of two entries of a grove (point 60)."""

from treeworks.errors import BadIndex, LimitExceeded, Mismatch
from treeworks.patches import Patch

MOST_TRIPLES = 100


class Change:
    """The differences of an old and a new entry; they are counted and found without building the trees."""

    def __init__(self, grove, old, new):
        kinds = [grove.kind_of(number) for number in (old, new)]
        if kinds[0] != kinds[1]:
            raise Mismatch()
        self.grove = grove
        self.old = old
        self.new = new
        self._counts = difference_counts(grove, old, new)
        self.count = self._counts[(old, new)]

    def path_of(self, index):
        """The path of a difference."""
        return self._difference(index)[0]

    def parts_of(self, index):
        """The old and the new part at a difference."""
        return self._difference(index)[1]

    def stretches_of(self, index):
        """The stretches of a difference in the old and in the new text."""
        _, pair, start, new_start = self._difference(index)
        end = start + self.grove.length_of_piece(pair[0])
        return start, end, new_start, new_start + self.grove.length_of_piece(pair[1])

    def patch_of(self, index):
        """The triple that exchanges the stretch of a difference for the text of the new part."""
        new = self.parts_of(index)[1]
        start, end, _, _ = self.stretches_of(index)
        # A text that is too long is refused as a window.
        return start, end, new if isinstance(new, str) else self.grove.window(new, 0, self.grove.length_of(new))

    def text_patch(self):
        """The patch with the triples of all differences."""
        if self.count > MOST_TRIPLES:
            raise LimitExceeded("window")
        triples = [self.patch_of(index) for index in range(self.count)]
        return Patch(*triples)

    def _difference(self, index):
        """The path of a difference, the pair of the parts there, and the starts of both in their texts."""
        if not 0 <= index < self.count:
            raise BadIndex(index)
        path = []
        left = index
        pair = (self.old, self.new)
        start = 0
        new_start = 0
        while have_one_name(self.grove, pair):
            pieces = list(zip(self.grove.pieces(pair[0]), self.grove.pieces(pair[1])))
            for (at, old), (_, new) in pieces:
                inside = self._counts.get((old, new), 0)
                if left < inside:
                    path.append(at)
                    pair = (old, new)
                    break
                left -= inside
                start += self.grove.length_of_piece(old)
                new_start += self.grove.length_of_piece(new)
        return tuple(path), pair, start, new_start


def difference_counts(grove, old, new):
    """The number of differences for each pair of parts that stand at one place and are not equal, and of the whole."""
    counts = {}
    waiting = [(old, new)]
    while waiting:
        pair = waiting[-1]
        inner = inner_pairs(grove, pair)
        missing = [below for below in inner if below not in counts]
        waiting.extend(missing)
        if not missing:
            waiting.pop()
            own = 0 if have_one_name(grove, pair) else 1
            counts[pair] = own + sum([counts[below] for below in inner])
    return counts


def have_one_name(grove, pair):
    """True if the two parts have the same name."""
    if isinstance(pair[0], str):
        return pair[0] == pair[1]
    return grove.entry(pair[0])[0] == grove.entry(pair[1])[0]


def inner_pairs(grove, pair):
    """The pairs of the parts of two nodes of one maker, as far as they are not equal."""
    if pair[0] == pair[1] or not have_one_name(grove, pair):
        return []
    olds, news = grove.entry(pair[0])[1], grove.entry(pair[1])[1]
    return [(old, new) for old, new in zip(olds, news) if old != new]
