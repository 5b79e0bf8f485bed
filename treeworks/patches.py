"""Patches of texts (point 61)."""

from treeworks.errors import BadPatch


class Patch:
    """Exchanges stretches of a text for strings; it does not change."""

    def __init__(self, *triples):
        last = 0
        for index, (start, end, _) in enumerate(triples):
            if not last <= start <= end:
                raise BadPatch(index)
            last = end
        self.triples = tuple([(start, end, added) for start, end, added in triples])

    def __call__(self, text):
        """The text after the patch."""
        pieces = []
        last = 0
        for index, (start, end, added) in enumerate(self.triples):
            if end > len(text):
                raise BadPatch(index)
            pieces.append(text[last:start])
            pieces.append(added)
            last = end
        pieces.append(text[last:])
        return "".join(pieces)

    def suits_text(self, text):
        """True if the patch fits the text."""
        return not self.triples or self.triples[-1][1] <= len(text)

    def __add__(self, other):
        """The patch that does what this one and then the other one does."""
        if not isinstance(other, Patch):
            return NotImplemented
        triples = triples_of(after_patch(pieces_of(self.triples), other.triples))
        return Patch(*triples)

    def back(self, text):
        """The patch that leads from the text after this patch back to the text."""
        triples = []
        moved = 0
        for index, (start, end, added) in enumerate(self.triples):
            if end > len(text):
                raise BadPatch(index)
            triples.append((start + moved, start + moved + len(added), text[start:end]))
            moved += len(added) - (end - start)
        return Patch(*triples)

    def __eq__(self, other):
        return isinstance(other, Patch) and self.triples == other.triples


# A patched text consists of pieces. A piece is a triple: the start and the end of a stretch of the text before that
# stays, with the empty string, or twice some index with a string that is added. The last piece is the rest of the text;
# its end is not known and stands as None.


def pieces_of(triples):
    """The pieces of a text after the patch with these triples."""
    pieces = []
    last = 0
    for start, end, added in triples:
        pieces.append((last, start, ""))
        pieces.append((end, end, added))
        last = end
    pieces.append((last, None, ""))
    return pieces


def after_patch(pieces, triples):
    """The pieces of a text of these pieces after the patch with these triples."""
    found = []
    waiting = pieces[::-1]
    at = 0
    for start, end, added in triples:
        for stop, stays in ((start, True), (end, False)):
            while at < stop:
                head, rest = parted(waiting.pop(), stop - at)
                if rest is not None:
                    waiting.append(rest)
                if stays:
                    found.append(head)
                at += length_of(head)
        found.append((end, end, added))
    found.extend(waiting[::-1])
    return found


def length_of(piece):
    """The length of a piece whose end is known."""
    start, end, added = piece
    return len(added) if added else end - start


def parted(piece, most):
    """The first characters of a piece, not more than this number, and the piece of the others, or None without them."""
    start, end, added = piece
    if end is None:
        return (start, start + most, ""), (start + most, None, "")
    if length_of(piece) <= most:
        return piece, None
    if added:
        return (start, end, added[:most]), (start, end, added[most:])
    return (start, start + most, ""), (start + most, end, "")


def triples_of(pieces):
    """The triples of the patch that leads to a text of these pieces, the last of which has no end."""
    triples = []
    last = 0
    added = ""
    for start, end, text in pieces:
        if text:
            added = added + text
        elif end is None or start < end:
            if added or start > last:
                triples.append((last, start, added))
            added = ""
            last = end
    return triples
