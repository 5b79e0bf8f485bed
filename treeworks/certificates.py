"""Writing and reading certificates (points 48 to 51)."""

from treeworks.errors import BadCertificate, BadTerm
from treeworks.names import is_digit, is_small_name, read_path, written_path
from treeworks.trees import Tree

MOST_DIGITS = 9


class Certificate:
    """The base class of certificates; each one has its first line as its `claim`."""

    @staticmethod
    def read(text):
        """The certificate with these lines, which are joined by line feeds."""
        lines = text.split("\n")
        if lines[0].startswith("shown "):
            return read_shown(lines)
        return read_reach(lines)


class Shown(Certificate):
    """Shows what the sure result of a pipeline for a tree is."""

    def __init__(self, title, term, pattern, lots, shows, openings):
        self.claim = f"shown {title} / {term} => {pattern}"
        self.title = title
        self.term = term
        self.pattern = pattern
        self.lots = tuple(lots)
        self.shows = tuple(shows)
        self.openings = tuple(openings)

    def lines(self):
        """The list of the lines."""
        lots = [f"lot {term}" for term in self.lots]
        shows = [f"line {word} {term} => {pattern}" for word, term, pattern in self.shows]
        holes = [f"hole {written_path(path)}: {first} / {second}" for path, first, second in self.openings]
        return [self.claim, *lots, *shows, *holes]


class Reach(Certificate):
    """Shows how many frames an exchange can change."""

    def __init__(self, title, frames, lots, ranks):
        self.claim = f"reach {title} / {frames}"
        self.title = title
        self.frames = frames
        self.lots = tuple(lots)
        self.ranks = tuple(ranks)

    def lines(self):
        """The list of the lines."""
        lots = [f"lot {term}" for term in self.lots]
        ranks = [f"rank {first} / {second} = {rank}" for first, second, rank in self.ranks]
        return [self.claim, *lots, *ranks]


def read_shown(lines):
    """The certificate with these lines, of which the first one begins as the claim of a `Shown`."""
    title, _, claim = lines[0].removeprefix("shown ").partition(" / ")
    term, _, pattern = claim.partition(" => ")
    if not is_word(title) or not is_term(term) or not is_term(pattern):
        raise BadCertificate(1)
    lots = rows_of_form(lines[1:], lot_of_line)
    shows = rows_of_form(lines[1 + len(lots):], show_of_line)
    openings = rows_of_form(lines[1 + len(lots) + len(shows):], opening_of_line)
    check_all_read(lines, 1 + len(lots) + len(shows) + len(openings))
    return Shown(title, term, pattern, lots, shows, openings)


def read_reach(lines):
    """The certificate with these lines, if they are those of a `Reach`."""
    title, _, frames = lines[0].removeprefix("reach ").partition(" / ")
    if not lines[0].startswith("reach ") or not is_word(title) or not is_number(frames):
        raise BadCertificate(1)
    lots = rows_of_form(lines[1:], lot_of_line)
    ranks = rows_of_form(lines[1 + len(lots):], rank_of_line)
    check_all_read(lines, 1 + len(lots) + len(ranks))
    return Reach(title, int(frames), lots, ranks)


def check_all_read(lines, many):
    """Raises an error for the first line behind those that have been read."""
    if many < len(lines):
        raise BadCertificate(many + 1)


def rows_of_form(lines, row_of):
    """What stands in the lines up to the first one that has not the form that a function reads."""
    rows = []
    for line in lines:
        row = row_of(line)
        if row is None:
            return rows
        rows.append(row)
    return rows


def lot_of_line(line):
    """The term of a `lot` line, None for all other lines."""
    term = line.removeprefix("lot ")
    return term if line.startswith("lot ") and is_whole_term(term) else None


def show_of_line(line):
    """The word, the term and the pattern of a `line` line, None for all other lines."""
    word, _, shown = line.removeprefix("line ").partition(" ")
    term, _, pattern = shown.partition(" => ")
    fits = line.startswith("line ") and is_word(word) and is_whole_term(term) and is_term(pattern)
    return (word, term, pattern) if fits else None


def opening_of_line(line):
    """The path and the two terms of a `hole` line, None for all other lines."""
    path, _, terms = line.removeprefix("hole ").partition(": ")
    first, _, second = terms.partition(" / ")
    fits = line.startswith("hole ") and is_path(path) and is_whole_term(first) and is_whole_term(second)
    return (read_path(path), first, second) if fits else None


def rank_of_line(line):
    """The two terms and the number of a `rank` line, None for all other lines."""
    terms, _, rank = line.removeprefix("rank ").partition(" = ")
    first, _, second = terms.partition(" / ")
    fits = line.startswith("rank ") and is_whole_term(first) and is_whole_term(second) and is_number(rank)
    return (first, second, int(rank)) if fits else None


def is_word(text):
    """True for one or more small names joined by points."""
    return all([is_small_name(name) for name in text.split(".")])


def is_term(text):
    """True for the term of a tree."""
    try:
        Tree.read(text)
    except BadTerm:
        return False
    return True


def is_whole_term(text):
    """True for the term of a tree without holes."""
    return is_term(text) and Tree.read(text).whole


def is_number(text):
    """True for an integer without a sign and without needless zeros."""
    if not 1 <= len(text) <= MOST_DIGITS or not all([is_digit(sign) for sign in text]):
        return False
    return text == "0" or text[0] != "0"


def is_path(text):
    """True for a written path."""
    return text == "-" or all([is_number(at) for at in text.split(".")])
