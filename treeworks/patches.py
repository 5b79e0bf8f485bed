"""Patches of texts (point 61)."""

from treeworks.errors import BadPatch


class Patch:
    """Exchanges stretches of a text for strings; it does not change."""

    def __init__(self, *triples):
        last = 0
        for index, (start, end, _) in enumerate(triples):
            if not last <= start <= end:
                raise BadPatch(index)
            last = end
        self.triples = tuple([(start, end, added) for start, end, added in triples])

    def __call__(self, text):
        """The text after the patch."""
        pieces = []
        last = 0
        for index, (start, end, added) in enumerate(self.triples):
            if end > len(text):
                raise BadPatch(index)
            pieces.append(text[last:start])
            pieces.append(added)
            last = end
        pieces.append(text[last:])
        return "".join(pieces)

    def suits_text(self, text):
        """True if the patch fits the text."""
        return not self.triples or self.triples[-1][1] <= len(text)

    def __add__(self, other):
        """The patch that does what this one and then the other one does."""
        if not isinstance(other, Patch):
            return NotImplemented
        triples = triples_of(after_patch(pieces_of(self.triples), other.triples))
        return Patch(*triples)

    def back(self, text):
        """The patch that leads from the text after this patch back to the text."""
        triples = []
        moved = 0
        for index, (start, end, added) in enumerate(self.triples):
            if end > len(text):
                raise BadPatch(index)
            triples.append((start + moved, start + moved + len(added), text[start:end]))
            moved += len(added) - (end - start)
        return Patch(*triples)

    def __eq__(self, other):
        return isinstance(other, Patch) and self.triples == other.triples


# A patched text consists of pieces. A piece is a triple: the start and the end of a stretch that stays, with the empty
# string, or twice the start of the next such stretch, with a string that is added before it. The end of the last
# stretch is not known and stands as None.


def pieces_of(triples):
    """The pieces of a text after the patch with these triples."""
    pieces = []
    last = 0
    for start, end, added in triples:
        pieces.append((last, start, ""))
        pieces.append((end, end, added))
        last = end
    pieces.append((last, None, ""))
    return pieces


def after_patch(pieces, triples):
    """The pieces of a text of these pieces after the patch with these triples."""
    found = []
    last = 0
    for start, end, added in triples:
        found.extend(cut(pieces, last, start))
        found.append((0, 0, added))
        last = end
    found.extend(cut(pieces, last, None))
    return found


def cut(pieces, first, last):
    """What of the pieces stands from one index of the text to another one, or to the end for None."""
    found = []
    at = 0
    for start, end, added in pieces:
        if end is None:
            low = start + first - at if first > at else start
            found.append((low, None if last is None else start + last - at, ""))
            return found
        length = len(added) if added else end - start
        low = first - at if first > at else 0
        high = last - at if last is not None and last - at < length else length
        if low < high:
            found.append((start, end, added[low:high]) if added else (start + low, start + high, ""))
        at += length
    return found


def triples_of(pieces):
    """The triples of the patch that leads to a text of these pieces, the last of which has no end."""
    triples = []
    last = 0
    added = ""
    for start, end, text in pieces:
        if text:
            added = added + text
        elif end is None or start < end:
            if added or start > last:
                triples.append((last, start, added))
            added = ""
            last = end
    return triples
