"""Telling results while a text is typed, and asking for what is needed (points 42 and 43)."""

from treeworks.errors import LimitExceeded, NothingLeft
from treeworks.outlines import needed, opening
from treeworks.sure import Sure, sure_result
from treeworks.tables import kind_due_at
from treeworks.texts import sign_path, sketch, text_of
from treeworks.trees import HOLE


class Typist:
    """Reads a text sign by sign and tells how the texts of all results that are still possible begin."""

    MOST_SIGNS = 50

    def __init__(self, pipeline):
        self._sure = Sure(pipeline)
        self._before = []
        self.typed = ""
        self.told = self._told_for("")

    def __call__(self, sign):
        """Reads one more character; returns what is told in addition."""
        if len(self.typed) >= Typist.MOST_SIGNS:
            raise LimitExceeded("text")
        told = self._told_for(self.typed + sign)
        added = told[len(self.told):]
        self._before.append(self.told)
        self.typed = self.typed + sign
        self.told = told
        return added

    def parting(self):
        """Two strings behind which the told texts part, or None if the result is known."""
        result = self._sure_result(self.typed)
        if result.whole:
            return None
        pipeline = self._sure.pipeline
        place = sign_path(pipeline.target, result, len(self.told))
        fillings = opening(self._sure, self._sketch(self.typed), place)
        texts = [text_of(pipeline.source, tree) for tree in fillings]
        return texts[0][len(self.typed):], texts[1][len(self.typed):]

    def erase(self):
        """Takes back the last character and returns it."""
        if not self.typed:
            raise NothingLeft()
        sign = self.typed[-1]
        self.typed = self.typed[:-1]
        self.told = self._before.pop()
        return sign

    def _sketch(self, typed):
        return sketch(self._sure.pipeline.source, self._sure.pipeline.takes, typed)

    def _sure_result(self, typed):
        return sure_result(self._sure, self._sketch(typed))

    def _told_for(self, typed):
        """The text of the sure result up to its first hole."""
        text = text_of(self._sure.pipeline.target, self._sure_result(typed))
        return text.partition(HOLE)[0]


class Inquiry:
    """Asks for the needed holes of a tree, one after the other."""

    def __init__(self, pipeline, tree):
        self._sure = Sure(pipeline)
        self.asked = ()
        self._know(tree)

    def __call__(self, part):
        """Puts the part at the path of the question; returns the new question."""
        if self.question is None:
            raise NothingLeft()
        pipeline = self._sure.pipeline
        due = kind_due_at(pipeline.source, pipeline.takes, self.known, self.question)
        pipeline.source.check(part, due, holes=True)
        answered = self.question
        self._know(self.known.exchanged(answered, part))
        self.asked = (*self.asked, answered)
        return self.question

    def _know(self, tree):
        """Takes a tree as the known one; nothing changes if this is refused."""
        holes = needed(self._sure, tree)
        result = sure_result(self._sure, tree)
        self.known = tree
        self.question = holes[0] if holes else None
        self.sure_tree = result
