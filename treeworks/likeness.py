"""Whether two outlines lead to the same results for all parts of the same lots (point 41)."""

from treeworks.hunts import name_at, part_with_other_name
from treeworks.tours import read_mark
from treeworks.trees import Tree


class Likeness:
    """Compares outlines, which the store of a tour holds.

    Two different outlines can lead to the same results only if they differ in nothing but marks for the same hole, and
    if these marks always lead to the same: so if this holds again for what the unfolded trees have in their places.
    Such a comparison is a triple of a lot and the names of two marks.
    """

    def __init__(self, sure, tour):
        self._sure = sure
        self._walk = sure.walk
        self._tour = tour
        self._store = tour.store
        self._forms = {}
        self._alike = {}

    def told_apart(self, first, second, kinds, lots):
        """A list of parts of these kinds and lots for which two outlines lead to different results; None if none do."""
        marks, clash = self._compared(first, second)
        if clash is not None:
            return self._parting(clash, kinds, lots)
        came = {}
        waiting = []
        self._note(came, waiting, None, kinds, lots, marks)
        at = 0
        while at < len(waiting):
            triple = waiting[at]
            at += 1
            word = read_mark(triple[1])[0]
            for maker, inner in self._walk.choices.made(self._walk.taken_by(word))[triple[0]]:
                shown = [self._shown(mark, maker, inner) for mark in triple[1:]]
                marks, clash = self._compared(shown[0], shown[1])
                if clash is not None:
                    parts = self._parting(clash, maker.wants, inner)
                    return self._climbed(came, triple, Tree(maker.name, *parts))
                self._note(came, waiting, (triple, maker.name), maker.wants, inner, marks)
        for triple in came:
            self._alike[triple] = True
        return None

    def _note(self, came, waiting, above, kinds, lots, marks):
        """Notes the comparisons to which marks lead, and from where."""
        for index, name, other in marks:
            triple = (lots[index], name, other) if name < other else (lots[index], other, name)
            if triple not in came and triple not in self._alike:
                came[triple] = (above, kinds, lots, index)
                waiting.append(triple)

    def _climbed(self, came, triple, tree):
        """The parts for the outlines, if this tree shows that the marks of a triple differ."""
        while True:
            above, kinds, lots, index = came[triple]
            parts = self._least_parts(kinds, lots)
            parts[index] = tree
            if above is None:
                return parts
            triple = above[0]
            tree = Tree(above[1], *parts)

    def _compared(self, first, second):
        """The marks that differ, each as an index and two names, and no clash; or a pair that cannot be alike."""
        store = self._store
        marks = []
        met = {}
        waiting = [(first, second)]
        while waiting:
            pair = waiting.pop()
            here, there = pair
            if here == there or pair in met:
                continue
            met[pair] = True
            are_open = [store.is_open(here), store.is_open(there)]
            if all(are_open) and store.index_of(here) == store.index_of(there):
                marks.append((store.index_of(here), store.names[here], store.names[there]))
            elif any(are_open) or store.names[here] != store.names[there]:
                return [], pair
            else:
                waiting.extend(list(zip(store.kids[here], store.kids[there])))
        return marks, None

    def _parting(self, clash, kinds, lots):
        """Parts of these lots for which the two parts of outlines that clash have different names."""
        store = self._store
        parts = self._least_parts(kinds, lots)
        first, second = clash if store.is_open(clash[0]) else (clash[1], clash[0])
        if not store.is_open(first):
            return parts
        avoided = store.names[second]
        if store.is_open(second):
            word, path = read_mark(store.names[second])
            avoided = name_at(self._sure, word, parts[store.index_of(second)], path)
        word, path = read_mark(store.names[first])
        index = store.index_of(first)
        parts[index] = part_with_other_name(self._sure, word, lots[index], path, avoided)[0]
        return parts

    def _shown(self, mark, maker, lots):
        """The number of what stands for a mark if its part is a node of a maker whose parts have these lots."""
        word, path = read_mark(mark)
        key = (word, maker.name, lots)
        if key not in self._forms:
            plan = self._walk.unfolder.plan(word, maker, lots)
            leaves = []
            for _, inner, index in plan.leaves:
                leaves.append(self._tour.marked(inner, maker.wants[index], lots[index], index))
            self._forms[key] = plan.put_into(self._store, leaves)
        return self._store.descended(self._forms[key], path)[0]

    def _least_parts(self, kinds, lots):
        return [self._walk.lots.least(kind, lot) for kind, lot in zip(kinds, lots)]
