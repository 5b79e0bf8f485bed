"""How often results are put in for the parts of trees, step by step from the top downwards (points 54 and 55).

A site is a pair of a kind and a lot. A load is a pair of a site and a tuple with a number for each live word of the
site; for digits it is the number of the digit itself.
"""

from treeworks.tables import DIGIT
from treeworks.trees import Tree

MOST_LOADS = 2000


class Letter:
    """A step from a site to that of a part: which numbers of the site make up those of the part.

    `rows` has for each live word of the part a tuple of pairs of an index of a live word of the site and a number.
    """

    def __init__(self, target, rows, maker, lots, index):
        self.target = target
        self.rows = rows
        self.head = maker
        self.lots = lots
        self.index = index


class Flow:
    """The steps of all sites of a pipeline, for the spread of places or for the copies of digits.

    `weights` has for each site the tuple of what each of its live words adds to the spread, or to the copies.
    """

    def __init__(self, sure, digits):
        self.weights = {}
        self._walk = sure.walk
        self.digits = digits
        self._live = {}
        self._letters = {}
        self._counts = {}
        words = sure.walk.words()
        copied = live_for_copies(sure.walk, words) if digits else {}
        for kind in sure.pipeline.source.kinds:
            taking = [word for word in words if sure.walk.taken_by(word) == kind]
            for lot in range(sure.walk.lots.many(kind)):
                holes = {word: len(sure.sure_line(word, lot).holes()) for word in taking}
                live = [word for word in taking if (word, lot) in copied or not digits and holes[word] > 0]
                self._live[(kind, lot)] = tuple(live)
                self.weights[(kind, lot)] = tuple([0 if digits else holes[word] for word in live])
        self._live[(DIGIT, 0)] = (DIGIT,)
        self.weights[(DIGIT, 0)] = (1,)

    def starts(self):
        """The loads of whole trees of the kind that the pipeline takes."""
        pipeline = self._walk.pipeline
        found = []
        for lot in range(self._walk.lots.many(pipeline.takes)):
            site = (pipeline.takes, lot)
            found.append((site, tuple([1 if word == pipeline.start else 0 for word in self._live[site]])))
        return found

    def letters(self, site):
        """The list of the steps from a site; of those that do the same there is one."""
        if site not in self._letters:
            found = {}
            made = self._walk.choices.made(site[0])[site[1]] if site[0] != DIGIT else []
            for maker, lots in made:
                for letter in self._letters_of(site, maker, lots):
                    found.setdefault((letter.target, letter.rows), letter)
            self._letters[site] = list(found.values())
        return self._letters[site]

    def _letters_of(self, site, maker, lots):
        """The steps from a site to the parts of a node of it."""
        counts = {}
        for at, word in enumerate(self._live[site]):
            plan = self._walk.unfolder.plan(word, maker, lots)
            for inner, index, many in self._counted(plan):
                counts.setdefault((index, inner), []).append((at, many))
        letters = []
        for index, want in enumerate(maker.wants):
            target = (want, lots[index])
            rows = [tuple(counts.get((index, inner), [])) for inner in self._live[target]]
            letters.append(Letter(target, tuple(rows), maker, lots, index))
        return letters

    def _counted(self, plan):
        """The tuples of a word, an index and how often this open leaf stands in the unfolded tree of a plan."""
        if plan.top not in self._counts:
            counts = {number: 0 for number, _, _ in [*plan.nodes, *plan.leaves]}
            counts[plan.top] = 1
            for number, _, kids in reversed(list(plan.nodes)):
                for kid in kids:
                    counts[kid] += counts[number]
            self._counts[plan.top] = [(inner, index, counts[leaf]) for leaf, inner, index in plan.leaves]
        return self._counts[plan.top]

    def live_words(self, site):
        """The tuple of the live words of a site."""
        return self._live[site]

    def worth(self, load):
        """The spread of a place with this load, or the copies of a digit with it."""
        return sum([many * weight for many, weight in zip(load[1], self.weights[load[0]])])

    def counts_place(self, load):
        """True if the places with this load are asked for: digits, or all places."""
        return not self.digits or load[0][0] == DIGIT

    def least(self, site):
        """The least tree of a site."""
        return self._walk.lots.least(site[0], site[1])


def live_for_copies(walk, words):
    """The pairs of a word and a lot, as keys, for which a digit of some tree of the lot has a copy in the result."""
    above = {}
    waiting = []
    for word in words:
        made = walk.choices.made(walk.taken_by(word))
        for lot in made:
            for maker, lots in made[lot]:
                for _, inner, index in walk.unfolder.plan(word, maker, lots).leaves:
                    if inner == DIGIT:
                        waiting.append((word, lot))
                    else:
                        above.setdefault((inner, lots[index]), {})[(word, lot)] = True
    live = {}
    while waiting:
        pair = waiting.pop()
        if pair not in live:
            live[pair] = True
            waiting.extend(list(above.get(pair, {})))
    return live


def after_letter(load, letter):
    """The load of the part to which a step leads."""
    numbers = load[1]
    return letter.target, tuple([sum([many * numbers[at] for at, many in row]) for row in letter.rows])


def explored(flow):
    """The loads that are possible, in the order of their distance from the top, each with how it was reached.

    It is kept as the load above and the step from there. No further loads are looked for beyond the greatest number.
    """
    came = {load: None for load in flow.starts()}
    waiting = list(came)
    at = 0
    while at < len(waiting) and len(came) <= MOST_LOADS:
        load = waiting[at]
        at += 1
        for letter in flow.letters(load[0]):
            below = after_letter(load, letter)
            if below not in came:
                came[below] = (load, letter)
                waiting.append(below)
    return came


def around(flow, letters, tree):
    """The tree that has this one at the end of the steps of these letters, and least trees beside them."""
    for letter in letters[::-1]:
        parts = [flow.least((want, lot)) for want, lot in zip(letter.head.wants, letter.lots)]
        parts[letter.index] = tree
        tree = Tree(letter.head.name, *parts)
    return tree


def place_behind(flow, letters, site):
    """A tree and the path in it that goes the steps of these letters and ends at a least tree of a site."""
    return around(flow, letters, flow.least(site)), tuple([letter.index for letter in letters])
