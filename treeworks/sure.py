"""Sure lines and sure results (points 37 to 39)."""

from treeworks.errors import BadIndex, LimitExceeded, Unknown
from treeworks.lines import Lines
from treeworks.stores import tree_of
from treeworks.upwards import Upwards
from treeworks.walks import Walk

MOST_WORDS = 20


class Sure:
    """The sure lines of a pipeline."""

    def __init__(self, pipeline):
        walk = Walk(pipeline)
        words = walk.words()
        if len(words) > MOST_WORDS:
            raise LimitExceeded("words")
        lines = Lines(walk, words)
        self.pipeline = pipeline
        self.walk = walk
        self._lines = {word: [lines.common_line(word, lot) for lot in range(self._many(word))] for word in words}

    def _many(self, word):
        """The number of lots of the kind that a word takes."""
        return self.walk.lots.many(self.walk.taken_by(word))

    def sure_line(self, word, lot):
        """The common part of the results of a word for all trees of a lot."""
        if word not in self._lines:
            raise Unknown(word)
        if not 0 <= lot < len(self._lines[word]):
            raise BadIndex(lot)
        return self._lines[word][lot]


def sure_result(sure, tree):
    """The common part of the results for all fillings of a tree with holes."""
    sure.pipeline.source.check(tree, sure.pipeline.takes, holes=True)
    upwards = Upwards(sure)
    return tree_of(upwards.store, upwards.result(upwards.numbered(tree)))
