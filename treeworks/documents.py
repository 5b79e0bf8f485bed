"""Documents: texts on their way, with the trees that are known of them (points 62 to 64)."""

from treeworks.errors import BadCount, BadIndex, LimitExceeded, NoPlace, Unknown, WrongSign
from treeworks.names import is_digit
from treeworks.tables import kind_due_at
from treeworks.texts import all_stretches, parse, sketch, text_of
from treeworks.trees import HOLE, Tree

MOST_CHARACTERS = 50


class Document:
    """A document; it does not change once it has been made."""

    def __init__(self, table, kind, wording):
        if kind not in table.kinds:
            raise Unknown(kind)
        check_length(wording)
        tree = right_tree(table, kind, wording)
        self.table = table
        self.kind = kind
        self.wording = wording
        self.skeleton = Tree(HOLE) if tree is None else tree
        self.broken = (((), wording),) if tree is None else ()
        self.known = known_tree(self) if tree is None else tree

    @property
    def right(self):
        """True if there is no broken part."""
        return not self.broken

    def edited(self, at, removed, added):
        """The document after an edit of its wording."""
        length = len(self.wording)
        if not 0 <= at <= length:
            raise BadIndex(at)
        if not 0 <= removed <= length - at:
            raise BadCount(removed)
        wording = self.wording[:at] + added + self.wording[at + removed:]
        check_length(wording)
        if wording == self.wording:
            return self
        new = Document(self.table, self.kind, wording)
        if new.right:
            return new
        path, part, raw = part_after_edit(self, at, removed, added)
        return taken_over(self, new, path, part, raw)

    def put_at(self, path, part):
        """The document in which a right tree stands at a place of the skeleton."""
        if path not in self.skeleton:
            raise NoPlace(path)
        self.table.check(part, kind_due_at(self.table, self.kind, self.skeleton, path))
        start, end = self.span_of(path)
        wording = self.wording[:start] + text_of(self.table, part) + self.wording[end:]
        check_length(wording)
        new = Document(self.table, self.kind, wording)
        return new if new.right else taken_over(self, new, path, part, None)

    def span_of(self, path):
        """The stretch of a place of the skeleton in the wording."""
        if path not in self.skeleton:
            raise NoPlace(path)
        return spans_of(self)[path]


def check_length(wording):
    """Raises an error if the wording is too long."""
    if len(wording) > MOST_CHARACTERS:
        raise LimitExceeded("text")


def right_tree(table, kind, text):
    """The tree of a right text, or None if the text is not right."""
    try:
        return parse(table, kind, text)
    except WrongSign:
        return None


def begun_tree(table, kind, text):
    """The sketch of a beginning, or None if the text is none."""
    try:
        return sketch(table, kind, text)
    except WrongSign:
        return None


def spans_of(document):
    """The stretches of all places of the skeleton in the wording, by their paths, in the order of the wording."""
    return all_stretches(document.table, document.skeleton, {path: raw for path, raw in document.broken})


def begun_part(document, path, raw):
    """The sketch of the raw text of a broken part, or None if the part is wrong."""
    kind = kind_due_at(document.table, document.kind, document.skeleton, path)
    return begun_tree(document.table, kind, raw)


def known_tree(document):
    """The skeleton with the sketches of unfinished parts in their holes."""
    tree = document.skeleton
    for path, raw in document.broken:
        begun = begun_part(document, path, raw)
        if begun is not None:
            tree = tree.exchanged(path, begun)
    return tree


def chain_of(document, start, end):
    """The chain of an edit of the wording from the start to the end: pairs of a path and the kind that is due there."""
    spans = spans_of(document)
    chain = [((), document.kind)]
    part = document.skeleton
    while part.name in document.table:
        maker = document.table.maker(part.name)
        fitting = []
        for sign in maker.form:
            if is_digit(sign):
                index = int(sign) - 1
                path = (*chain[-1][0], index)
                if spans[path][0] <= start and spans[path][1] >= end:
                    fitting.append((path, maker.wants[index]))
        if not fitting:
            break
        chain.append(fitting[0])
        part = document.skeleton[fitting[0][0]]
    return chain


def part_after_edit(document, at, removed, added):
    """The path of the place that an edit changes, with the new tree there, and with the raw text if it is broken."""
    spans = spans_of(document)
    rows = []
    for path, kind in chain_of(document, at, at + removed):
        start, end = spans[path]
        rows.append((path, kind, document.wording[start:at] + added + document.wording[at + removed:end]))
    for path, kind, text in reversed(list(rows)):
        tree = right_tree(document.table, kind, text)
        if tree is not None:
            return path, tree, None
    for path, kind, text in reversed(list(rows)):
        if begun_tree(document.table, kind, text) is not None:
            return path, Tree(HOLE), text
    path, _, text = rows[-1]
    return path, Tree(HOLE), text


def taken_over(old, new, path, part, raw):
    """Gives a new document, which is not right, the skeleton of the old one with a part at the path.

    All broken parts outside of the path stay; if the part is a hole, `raw` is its raw text.
    """
    raws = {place: text for place, text in old.broken if place[:len(path)] != path}
    if raw is not None:
        raws[path] = raw
    new.skeleton = old.skeleton.exchanged(path, part)
    spans = all_stretches(new.table, new.skeleton, raws)
    new.broken = tuple([(place, raws[place]) for place in spans if place in raws])
    new.known = known_tree(new)
    return new
