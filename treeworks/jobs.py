"""The jobs of shared runs (point 59)."""

from treeworks.tables import DIGIT


class Jobs:
    """Works out jobs, pairs of a word and an entry of the source, to entries of the target or digits; each only once.

    `total` is the number of all jobs that were worked out.
    """

    def __init__(self, walk, source, target):
        self.total = 0
        self._walk = walk
        self._source = source
        self._target = target
        self._lots = []
        self._results = {}

    def run(self, number):
        """The number of the entry of the result for an entry of the kind that the pipeline takes."""
        start = self._walk.pipeline.start
        # All jobs are found before anything is stored, so a run that is refused changes nothing.
        plans = self._new_plans((number, start))
        # The entries of parts have lower numbers, so what a job needs is there before it.
        words = {}
        for entry, word in plans:
            words.setdefault(entry, []).append(word)
        for entry in sorted([int(each) for each in words]):
            for word in words[entry]:
                self._results[(entry, word)] = self._worked(entry, plans[(entry, word)])
        self.total += len(plans)
        return self._results[(number, start)]

    def _new_plans(self, first):
        """The plans of the unfolded trees of all jobs that are not worked out yet."""
        plans = {}
        waiting = [first]
        while waiting:
            job = waiting.pop()
            if job not in plans and job not in self._results:
                entry, word = job
                name, parts = self._source.entry(entry)
                lots = tuple([self._lot(part) for part in parts])
                plans[job] = self._walk.unfolder.plan(word, self._source.table.maker(name), lots)
                waiting.extend([(parts[index], inner) for _, inner, index in plans[job].leaves if inner != DIGIT])
        return plans

    def _lot(self, part):
        """The lot of an entry of the source or of a digit."""
        lots = self._walk.lots
        if isinstance(part, str):
            return lots.next_lot(part, ())
        while len(self._lots) <= part:
            name, parts = self._source.entry(len(self._lots))
            inner = [lots.next_lot(kid, ()) if isinstance(kid, str) else self._lots[kid] for kid in parts]
            self._lots.append(lots.next_lot(name, tuple(inner)))
        return self._lots[part]

    def _worked(self, entry, plan):
        """The result of a job, whose inner jobs are worked out."""
        parts = self._source.entry(entry)[1]
        made = {}
        for number, word, index in plan.leaves:
            made[number] = parts[index] if word == DIGIT else self._results[(parts[index], word)]
        for number, name, kids in plan.nodes:
            is_maker = name in self._target.table
            made[number] = self._target.stored(name, tuple([made[kid] for kid in kids])) if is_maker else name
        return made[plan.top]
