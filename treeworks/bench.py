"""The bench: a text, its tree and the result of a pipeline for it, under edits (points 65 to 72)."""

from treeworks.certificates import is_number, is_path, is_term
from treeworks.documents import Document, begun_part
from treeworks.errors import BadLine, Mismatch, NoPlace, NoTree, NotRight, NothingLeft
from treeworks.moments import Engine, Moment
from treeworks.names import read_path, written_path
from treeworks.sets import TreeSet, before
from treeworks.texts import parse
from treeworks.trees import Tree


class Bench:
    """A document for the kind that a pipeline takes, and what is sure of the result."""

    def __init__(self, pipeline, text=""):
        engine = Engine(pipeline)
        self.document = Document(pipeline.source, pipeline.takes, text)
        self._now = Moment(None, None, engine.setting_of(self.document), (), ())

    @property
    def text(self):
        """The wording of the document."""
        return self.document.wording

    @text.setter
    def text(self, value):
        self.rewrite(value)

    @property
    def pipeline(self):
        """The present pipeline."""
        return self._now.setting.engine.assigned

    @pipeline.setter
    def pipeline(self, value):
        self.change(value)

    @property
    def shown(self):
        """The shown tree."""
        return self._now.setting.sure_tree

    @property
    def output(self):
        """The text of the shown tree."""
        return self._now.setting.written

    @property
    def work(self):
        """The number of jobs of all right documents that the bench has had with this pipeline."""
        return self._now.setting.engine.jobs.total

    @property
    def moment(self):
        """The number of deeds, undos and redos."""
        return self._now.at

    @property
    def deeds(self):
        """The number of deeds that can be taken back."""
        return len(self._now.done)

    @property
    def patch(self):
        """The patch that leads from the output before to the present one."""
        return self._now.mended

    def __getitem__(self, path):
        """The part of the known tree at a path."""
        return self.document.known[path]

    def __setitem__(self, path, part):
        self.exchange(path, part)

    def __iter__(self):
        raise TypeError("a bench is not iterated over")

    def rewrite(self, text):
        """Makes the document of a new wording."""
        pipeline = self.pipeline
        self._do(f"rewrite {text}", Document(pipeline.source, pipeline.takes, text))

    def edit(self, at, removed, added=""):
        """Edits the wording."""
        self._do(f"edit {at} {removed} {added}", self.document.edited(at, removed, added))

    def exchange(self, path, part):
        """Puts a part at a place of the skeleton."""
        self._do(f"exchange {written_path(path)} {part.term}", self.document.put_at(path, part))

    def wish(self, text):
        """Exchanges one part such that the result has this text."""
        pipeline = self.pipeline
        tree = parse(pipeline.target, pipeline.gives, text)
        if not self.document.right:
            raise NotRight()
        document = self.document
        if self.shown != tree:
            trees = before(pipeline, TreeSet.single(pipeline.target, tree))
            path, part = trees.nearest(document.skeleton)
            document = document.put_at(path, part)
        self._do(f"wish {text}", document)

    def change(self, pipeline):
        """Takes another pipeline."""
        if pipeline.source != self.pipeline.source or pipeline.takes != self.pipeline.takes:
            raise Mismatch()
        setting = Engine(pipeline).setting_of(self.document)
        self._take(self._now.after_deed(f"change {pipeline.title}", setting))

    def undo(self):
        """Takes back the last deed."""
        if not self._now.done:
            raise NothingLeft()
        self._take(self._now.after_undo())

    def redo(self):
        """Does again the deed that was taken back last."""
        if not self._now.undone:
            raise NothingLeft()
        self._take(self._now.after_redo())

    def since(self, place):
        """The moment since which a place of the shown tree stands."""
        if place not in self.shown:
            raise NoPlace(place)
        return self._now.standing_since(place)

    def log(self):
        """The list of the lines of the log."""
        return self._now.lines_so_far()

    def replay(self, lines, *pipelines):
        """Does what the lines of a log tell."""
        with self.trial():
            for at, line in enumerate(list(lines)):
                if not does_line(self, line, pipelines):
                    raise BadLine(at + 1)

    def trial(self):
        """A `Trial` for a `with` block."""
        return Trial(self)

    def report(self):
        """Yields the lines of the report."""
        for line in report_lines(self.document, self.output):
            yield line

    def _do(self, line, document):
        """Ends a deed that leads to a document."""
        self._take(self._now.after_deed(line, self._now.setting.engine.setting_of(document)))

    def _take(self, moment):
        self.document = moment.setting.held
        self._now = moment


class Trial:
    """A block after which the bench gets back what it had, if an exception leaves it."""

    def __init__(self, bench):
        self._bench = bench
        self._document = None
        self._now = None

    def __enter__(self):
        self._document = self._bench.document
        self._now = self._bench._now
        return self._bench

    def __exit__(self, kind, value, trace):
        bench = self._bench
        if kind is not None:
            bench.document = self._document
            bench._now = self._now


def does_line(bench, line, pipelines):
    """Does what a line of a log tells; returns False if it has none of the forms or its title is not known."""
    word, space, told = line.partition(" ")
    if word == "edit":
        return does_edit(bench, told)
    if word == "exchange":
        path, _, term = told.partition(" ")
        if not is_path(path) or not is_term(term):
            return False
        bench.exchange(read_path(path), Tree.read(term))
    elif word == "rewrite" and space:
        bench.rewrite(told)
    elif word == "wish" and space:
        bench.wish(told)
    elif word == "change":
        named = [pipeline for pipeline in pipelines if pipeline.title == told]
        if not named:
            return False
        bench.change(named[0])
    elif line == "undo":
        bench.undo()
    elif line == "redo":
        bench.redo()
    else:
        return False
    return True


def does_edit(bench, told):
    """Does the edit that stands behind the first space of a line, if it has the form of one."""
    at, _, rest = told.partition(" ")
    removed, space, added = rest.partition(" ")
    if not is_number(at) or not is_number(removed) or not space:
        return False
    bench.edit(int(at), int(removed), added)
    return True


def report_lines(document, output):
    """The lines of a report."""
    marks = [" " for _ in document.wording]
    lines = []
    for at, (path, raw) in enumerate(document.broken):
        start, end = document.span_of(path)
        begun = begun_part(document, path, raw) is not None
        for index in range(start, end):
            marks[index] = "~" if begun else "x"
        word = "unfinished" if begun else "wrong"
        lines.append(f"{at + 1:>3}{start:>4}{end:>4}  {word}")
    return [document.wording, "".join(marks), output, *lines]
