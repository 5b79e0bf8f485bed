"""The one walk of a pipeline (points 28 and 29)."""

from treeworks.errors import LimitExceeded, Unknown
from treeworks.onwards import lot_tables
from treeworks.parts import Choices, Parts
from treeworks.pipelines import state_names
from treeworks.stores import tree_of
from treeworks.tables import DIGIT
from treeworks.tours import Tour, all_visits
from treeworks.unfolding import LotSights, Unfolder


class Walk:
    """The one walk of a pipeline: results without the results of the single stages."""

    def __init__(self, pipeline):
        tables = lot_tables(pipeline.stages, None)
        self.pipeline = pipeline
        self.lots = tables[0]
        self.unfolder = Unfolder(pipeline.stages, LotSights(pipeline.stages, tables))
        self.choices = Choices(tables[0])

    def __call__(self, tree):
        """The result for a tree."""
        source = self.pipeline.source
        source.check(tree, self.pipeline.takes)
        tour = Tour(self, None, Parts(source, self.choices))
        number = tour.whole_result(tree)
        if tour.store.is_large(number):
            raise LimitExceeded("result")
        return tree_of(tour.store, number)

    def visits(self, tree):
        """Yields all visits of the walk on a tree, pairs of a path and a word."""
        source, takes = self.pipeline.source, self.pipeline.takes
        source.check(tree, takes)
        parts = Parts(source, self.choices)
        numbers = parts.placed(tree, takes, apart=True)
        found = all_visits(self, Tour(self, None, parts), tree, numbers)
        for path, word in found:
            yield path, word

    def unfold(self, word, maker, *lots):
        """The unfolded tree of a word at a maker, for these lots of its parts."""
        stages, source = self.pipeline.stages, self.pipeline.source
        first = stages[0].named(state_names(stages, word)[0])
        if source.maker(maker).kind != first.takes:
            raise Unknown(maker)
        self.lots.step(maker, *lots)
        return tree_of(self.unfolder.store, self.unfolder.opened(word, source.maker(maker), lots))

    def words(self):
        """The list of all reached words, in ascending order."""
        found = {self.pipeline.start: True}
        waiting = [self.pipeline.start]
        while waiting:
            word = waiting.pop()
            for inner in self._words_within(word):
                if inner not in found:
                    found[inner] = True
                    waiting.append(inner)
        return sorted([str(word) for word in found])

    def _words_within(self, word):
        """The words that occur in the unfolded trees of a word."""
        found = {}
        made = self.choices.made(self.taken_by(word))
        for lot in made:
            for maker, lots in made[lot]:
                for _, inner, _ in self.unfolder.plan(word, maker, lots).leaves:
                    if inner != DIGIT:
                        found[inner] = True
        return list(found)

    def taken_by(self, word):
        """The kind that a word takes."""
        return self.pipeline.stages[0].named(word.partition(".")[0]).takes
