"""The texts of trees (points 11 to 14)."""

from treeworks.errors import BadIndex, LimitExceeded, NoPlace, Unknown, WrongSign
from treeworks.names import is_digit
from treeworks.readers import Reader, shortest_texts
from treeworks.tables import DIGIT, top_kind
from treeworks.trees import Tree, is_hole


def text_of(table, tree):
    """The text of a tree that is right with holes."""
    return "".join([sign for sign, _ in laid_out(table, tree)])


def parse(table, kind, text):
    """The right tree of the kind with this text."""
    reader = started(table, kind)
    for at, sign in enumerate(text):
        if not reader.take(sign):
            raise WrongSign(at, reader.next_signs())
        if reader.deepest > Tree.MOST_LEVELS:
            raise LimitExceeded("levels")
    if reader.due():
        raise WrongSign(len(text), reader.next_signs())
    return reader.so_far()


def sketch(table, kind, beginning):
    """The tree with holes that the beginning of a text tells."""
    return begun(table, kind, beginning).so_far()


def awaited(table, kind, beginning):
    """The characters with which a right text can go on behind the beginning."""
    return begun(table, kind, beginning).next_signs()


def closing(table, kind, beginning):
    """The shortest string that makes a right text of the beginning."""
    reader = begun(table, kind, beginning)
    shortest = shortest_texts(table)
    return "".join([shortest[due] if due in shortest else due for due in reader.dues()])


def stretch(table, tree, path):
    """The start and the end of a part in the text."""
    signs = laid_out(table, tree)
    if path not in tree:
        raise NoPlace(path)
    inside = [at for at, (_, place) in enumerate(signs) if place[:len(path)] == path]
    return inside[0], inside[-1] + 1


def stretches_of(table, tree, paths):
    """The stretches of these paths, none of which is a prefix of another one, in the order of the text."""
    wanted = {path: True for path in paths}
    found = {}
    for at, (_, place) in enumerate(laid_out(table, tree)):
        for depth in range(len(place) + 1):
            path = place[:depth]
            if path in wanted:
                found[path] = (found[path][0] if path in found else at, at + 1)
    return list(found.values())


def all_stretches(table, tree, raws):
    """The stretches of all places of a tree that is right with holes, by their paths, in the order of the text.

    For some holes there are strings that stand in the text in their place.
    """
    found = {}
    at = 0
    waiting = [((), tree)]
    while waiting:
        path, piece = waiting.pop()
        if piece is None:
            # All parts of the place are behind.
            found[path] = (found[path][0], at)
        elif isinstance(piece, str):
            at += 1
        elif piece.name in table:
            found[path] = (at, at)
            waiting.append((path, None))
            waiting.extend(pieces_of(path, piece, table.maker(piece.name).form))
        else:
            start = at
            at += len(raws.get(path, piece.name))
            found[path] = (start, at)
    return found


def sign_path(table, tree, index):
    """The path of the place to which a character of the text belongs."""
    signs = laid_out(table, tree)
    if not 0 <= index < len(signs):
        raise BadIndex(index)
    return signs[index][1]


def started(table, kind):
    """A reader that has read nothing."""
    if kind != DIGIT and kind not in table.kinds:
        raise Unknown(kind)
    return Reader(table, kind)


def begun(table, kind, beginning):
    """A reader that has read the beginning."""
    reader = started(table, kind)
    for at, sign in enumerate(beginning):
        if not reader.take(sign):
            raise WrongSign(at, reader.next_signs())
    return reader


def laid_out(table, tree):
    """The list of the characters of the text, each with the path of the place to which it belongs."""
    if not is_hole(tree):
        table.check(tree, top_kind(table, tree), holes=True)
    signs = []
    waiting = [((), tree)]
    while waiting:
        path, piece = waiting.pop()
        if isinstance(piece, str):
            signs.append((piece, path))
        elif piece.name in table:
            waiting.extend(pieces_of(path, piece, table.maker(piece.name).form))
        else:
            signs.append((piece.name, path))
    return signs


def pieces_of(path, tree, form):
    """The signs and parts of a node with their paths, the last one first."""
    pieces = []
    for sign in reversed(list(form)):
        if is_digit(sign):
            at = int(sign) - 1
            pieces.append(((*path, at), tree.parts[at]))
        else:
            pieces.append((path, sign))
    return pieces
