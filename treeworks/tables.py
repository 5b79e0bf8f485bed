"""Tables of makers and the trees that are right for them (points 8 to 10)."""

from treeworks.errors import BadCount, BadLine, BadName, BadTable, Unknown, WrongTree
from treeworks.names import fields_of, is_big_name, is_digit, is_sign, is_small_name
from treeworks.trees import Tree, is_hole

DIGIT = "digit"
MOST_WANTS = 3
MOST_TREES = 2
MOST_SIGNS = 8


class Maker:
    """A maker of a table: how the nodes of its name are built and written."""

    def __init__(self, kind, name, wants, form):
        self.kind = kind
        self.name = name
        self.wants = wants
        self.form = form


class Table:
    """A table; it does not change."""

    MOST_ROWS = 10
    MOST_KINDS = 3

    def __init__(self, name, *rows):
        if not is_small_name(name):
            raise BadName(name)
        if not 1 <= len(rows) <= Table.MOST_ROWS:
            raise BadCount(len(rows))
        makers = tuple([Maker(kind, maker, tuple(wants), form) for kind, maker, wants, form in rows])
        check_rows(makers)
        check_together(makers)
        self.name = name
        self.kinds = kinds_of(makers)
        self.description = description_of(name, makers)
        self._makers = makers
        self._named = {maker.name: maker for maker in makers}
        self._least = least_trees(makers)

    @classmethod
    def read(cls, description):
        """The table with this description."""
        lines = description.split("\n")
        head = fields_of(lines[0])
        if len(head) != 2 or head[0] != "table":
            raise BadLine(1)
        rows = []
        for at, line in enumerate(lines[1:]):
            fields = fields_of(line)
            if len(fields) < 4 or not fields[0].endswith(":") or fields[-2] != "=":
                raise BadLine(at + 2)
            rows.append((fields[0][:-1], fields[1], tuple(fields[2:-2]), fields[-1]))
        return cls(head[1], *rows)

    def __eq__(self, other):
        return isinstance(other, Table) and self.description == other.description

    def __contains__(self, name):
        """True if this is the name of a maker."""
        return name in self._named

    def __iter__(self):
        return iter(self._makers)

    def maker(self, name):
        """The maker with this name."""
        if name not in self._named:
            raise Unknown(name)
        return self._named[name]

    def makers(self, kind):
        """The tuple of the makers of a kind."""
        if kind not in self.kinds:
            raise Unknown(kind)
        return tuple([maker for maker in self._makers if maker.kind == kind])

    def least(self, kind):
        """The least right tree of a kind."""
        if kind not in self._least:
            raise Unknown(kind)
        return self._least[kind]

    def check(self, tree, kind, *, holes=False):
        """Raises an error if the tree is not right for the kind."""
        wrong = wrong_place(self, tree, kind, holes)
        if wrong is not None:
            raise WrongTree(wrong)

    def fits(self, tree, kind, *, holes=False):
        """True if the tree is right for the kind."""
        return wrong_place(self, tree, kind, holes) is None


def kinds_of(makers):
    """The tuple of the kinds of the makers, each once."""
    kinds = []
    for maker in makers:
        if maker.kind not in kinds:
            kinds.append(maker.kind)
    return tuple(kinds)


def description_of(name, makers):
    lines = [f"table {name}"]
    for maker in makers:
        fields = [f"{maker.kind}:", maker.name, *maker.wants, "=", maker.form]
        lines.append(" ".join(fields))
    return "\n".join(lines)


def least_trees(makers):
    """The least tree of each kind that has a finite tree, and of the digits."""
    found = {DIGIT: Tree("0")}
    while True:
        best = None
        for maker in makers:
            if maker.kind in found or not all([want in found for want in maker.wants]):
                continue
            parts = [found[want] for want in maker.wants]
            tree = Tree(maker.name, *parts)
            # A node is greater than its parts, so the least one of all open kinds is the least one of its kind.
            if best is None or tree < best[1]:
                best = (maker.kind, tree)
        if best is None:
            return found
        found[best[0]] = best[1]


def check_rows(makers):
    """Pass 1 of the checks: each row beside those before it."""
    for row, maker in enumerate(makers):
        reason = row_fault(maker, makers[:row])
        if reason:
            raise BadTable(row, reason)


def row_fault(maker, before):
    """The reason why a row cannot stand behind those before it, or the empty string."""
    if not all([is_big_name(name) for name in (maker.kind, maker.name)]):
        return "name"
    if not all([want == DIGIT or is_big_name(want) for want in maker.wants]):
        return "name"
    kinds = kinds_of(before)
    if maker.kind not in kinds and len(kinds) == Table.MOST_KINDS:
        return "kinds"
    if any([maker.name == other.name for other in before]):
        return "repeated"
    trees = [want for want in maker.wants if want != DIGIT]
    if len(maker.wants) > MOST_WANTS or len(trees) > MOST_TREES:
        return "parts"
    return "" if is_form(maker.form, maker.wants) else "form"


def is_form(form, wants):
    """True if a maker with these wants can be written so."""
    if not 1 <= len(form) <= MOST_SIGNS:
        return False
    digits = [str(at + 1) for at in range(len(wants))]
    if not all([is_sign(sign) or sign in digits for sign in form]):
        return False
    if not all([form.count(digit) == 1 for digit in digits]):
        return False
    return not is_digit(form[0]) or wants[int(form[0]) - 1] == DIGIT


def check_together(makers):
    """Passes 2 to 4 of the checks: the rows among one another."""
    kinds = kinds_of(makers)
    for row, maker in enumerate(makers):
        if not all([want == DIGIT or want in kinds for want in maker.wants]):
            raise BadTable(row, "kind")
    for row, maker in enumerate(makers):
        starts = [start_of(other) for other in makers[:row] if other.kind == maker.kind]
        if start_of(maker) in starts:
            raise BadTable(row, "begins")
    finite = least_trees(makers)
    for row, maker in enumerate(makers):
        if maker.kind not in finite:
            raise BadTable(row, "finite")


def start_of(maker):
    """The first sign of the form, or the same string for all forms that begin with a digit."""
    return DIGIT if is_digit(maker.form[0]) else maker.form[0]


def wrong_place(table, tree, kind, holes):
    """The path of the first place that is not right for the kind, or None."""
    if kind != DIGIT and kind not in table.kinds:
        raise Unknown(kind)
    waiting = [((), tree, kind)]
    while waiting:
        path, part, due = waiting.pop()
        wants = wants_of(table, part, due, holes)
        if wants is None or len(wants) != len(part.parts):
            return path
        for at in reversed(range(len(wants))):
            waiting.append(((*path, at), part.parts[at], wants[at]))
    return None


def wants_of(table, part, due, holes):
    """The kinds that are due below a place, or None if its name cannot stand there."""
    if holes and is_hole(part):
        return ()
    if due == DIGIT:
        return () if is_digit(part.name) else None
    if part.name not in table:
        return None
    maker = table.maker(part.name)
    return maker.wants if maker.kind == due else None


def top_kind(table, tree):
    """The kind of the maker of the whole tree, or that of the digits."""
    if tree.name in table:
        return table.maker(tree.name).kind
    if is_digit(tree.name):
        return DIGIT
    raise WrongTree(())


def kind_due_at(table, kind, tree, path):
    """The kind that is due at a place of a tree, at which this kind is due as a whole."""
    for at in path:
        kind = table.maker(tree.name).wants[at]
        tree = tree.parts[at]
    return kind
