"""Pipelines of stages (points 19 to 22 and 25)."""

from treeworks.errors import BadCount, BadStage, Unknown
from treeworks.names import is_digit
from treeworks.runs import StateRun
from treeworks.tables import DIGIT
from treeworks.texts import parse, text_of
from treeworks.trees import places


class Pipeline:
    """A pipeline; it does not change."""

    MOST_STAGES = 4

    def __init__(self, *stages):
        if not 1 <= len(stages) <= Pipeline.MOST_STAGES:
            raise BadCount(len(stages))
        for at in range(1, len(stages)):
            if not follows(stages[at - 1], stages[at]):
                raise BadStage(at)
        self.stages = stages
        self.source = stages[0].source
        self.target = stages[-1].target
        self.takes = start_of(stages[0]).takes
        self.gives = start_of(stages[-1]).gives
        self.title = ".".join([stage.name for stage in stages])
        self.start = ".".join([stage.start for stage in stages])
        self._written = tuple([written_of(stage) for stage in stages])

    def __eq__(self, other):
        return isinstance(other, Pipeline) and self._written == other._written

    def __iter__(self):
        return iter(self.stages)

    def __add__(self, other):
        """The stages of both pipelines, one after the other."""
        if not isinstance(other, Pipeline):
            return NotImplemented
        return Pipeline(*self.stages, *other.stages)

    def __mul__(self, times):
        """The pipeline put together this many times."""
        if not isinstance(times, int):
            return NotImplemented
        stages = [stage for _ in range(times) for stage in self.stages]
        return Pipeline(*stages)

    def __rmul__(self, times):
        return self * times

    def __call__(self, tree):
        """The result for the tree."""
        return self.applied(self.start, tree)

    def translated(self, text):
        """The text of the result for the tree with this text."""
        return text_of(self.target, self(parse(self.source, self.takes, text)))

    def applied(self, word, tree):
        """The result of a word for the tree, each state after the other."""
        names = state_names(self.stages, word)
        result = tree
        for stage, name in zip(self.stages, names):
            result = stage.run(name, result)
        return result

    def origins(self, tree):
        """For each digit of the result its path and that of its origin, or None if it has none."""
        self.source.check(tree, self.takes)
        result = tree
        found = {path: path for path in digit_paths(tree)}
        for stage in self.stages:
            run = StateRun(stage, stage.start, result)
            result = run.result()
            origins = [None if path is None else found[path] for path in run.origins()]
            found = dict(zip(digit_paths(result), origins))
        return [(place, found[place]) for place in digit_paths(result)]


def start_of(stage):
    """The first state of a stage."""
    return stage.named(stage.start)


def follows(before, stage):
    """True if the stage can work on the results of the one before it."""
    return stage.source == before.target and start_of(stage).takes == start_of(before).gives


def written_of(stage):
    """All that tells a stage from others: its description and those of its tables."""
    return stage.description, stage.source.description, stage.target.description


def digit_paths(tree):
    """The paths of the digits of a tree, in reading order."""
    return [path for path, part in places(tree) if is_digit(part.name)]


def state_names(stages, word):
    """The names of the states of a word of these stages."""
    names = word.split(".")
    gives = None
    for at, name in enumerate(names):
        if at == len(stages) or name not in [state.name for state in stages[at].states]:
            raise Unknown(word)
        state = stages[at].named(name)
        if at > 0 and state.takes != gives:
            raise Unknown(word)
        gives = state.gives
    if len(names) < len(stages) and gives != DIGIT:
        raise Unknown(word)
    return names
