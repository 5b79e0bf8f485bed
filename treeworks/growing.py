"""Whether the numbers of a flow have a bound, and what shows that they have none (point 55).

How often a word occurs at a place is the number of the ways on which the words of the places above lead to it. There
is no greatest number of ways exactly if there is a row of steps that leads from a word to itself in two ways, or from
one word to itself and to another one, and from the other one to itself, too.
"""

from treeworks.graphs import components, first_of, labels_to, reached_from, shortest_way


class Growing:
    """The live words of sites that occur at some place, as states, which are numbered from 0, and the steps of a flow.

    `states` has the pairs of a site and a word, `came` how each state was reached: the state before and the letter.
    A group is what states share from which each other one can be reached.
    """

    def __init__(self, flow):
        self.states = []
        self.came = {}
        self._flow = flow
        self._numbers = {}
        self._moves = []
        self._double = []
        for site, counts in flow.starts():
            for word, count in zip(flow.live_words(site), counts):
                if count > 0:
                    self._note(site, word, None)
        while len(self._moves) < len(self.states):
            self._moves.append(self._moves_of(len(self._moves)))
        graph = {at: nexts_of(moves) for at, moves in enumerate(self._moves)}
        self._groups = components(graph)
        self._inner = []
        for at, moves in enumerate(self._moves):
            same = {}
            for letter in moves:
                same[letter] = [after for after in moves[letter] if self._groups[after] == self._groups[at]]
            self._inner.append({letter: same[letter] for letter in same if same[letter]})
        self._reached = {at: reached_from(graph, at) for at in graph}

    def _note(self, site, word, way):
        """The number of a state, which was reached in this way if it is a new one."""
        key = (site, word)
        if key not in self._numbers:
            self._numbers[key] = len(self.states)
            self.came[len(self.states)] = way
            self.states.append(key)
        return self._numbers[key]

    def _moves_of(self, state):
        """For each letter the list of the next states; steps that lead to one more than once are noted, too."""
        site, word = self.states[state]
        place = self._flow.live_words(site).index(word)
        moves = {}
        for letter in self._flow.letters(site):
            for other, row in zip(self._flow.live_words(letter.target), letter.rows):
                many = sum([number for at, number in row if at == place])
                if many > 0:
                    after = self._note(letter.target, other, (state, letter))
                    moves.setdefault(letter, []).append(after)
                    if many > 1:
                        self._double.append((state, letter, after))
        return moves

    def witness(self):
        """A state, the letters of a loop to it, and the word that grows with each loop; None if nothing grows."""
        found = self._doubled()
        if found is None:
            found = self._forked()
        if found is None:
            found = self._fed()
        return None if found is None else (found[0], found[1], self.states[found[2]][1])

    def _doubled(self):
        """A loop with a step that leads to a state more than once."""
        loops = [double for double in self._double if self._groups[double[0]] == self._groups[double[2]]]
        # A step from a state to itself is the shortest loop.
        short = [double for double in loops if double[0] == double[2]]
        for state, letter, after in [*short, *loops]:
            return state, [letter, *self._way_inside(after, state)], state
        return None

    def _way_inside(self, first, last):
        """The letters of a shortest way between two states of one group."""
        group = self._groups[first]
        inside = [at for at in self._groups if self._groups[at] == group]
        return shortest_way({at: pairs_of(self._inner[at]) for at in inside}, first, last)

    def _forked(self):
        """A loop on which two ways part and come together again within a group."""
        came = {(at, at): None for at in self.came if self._inner[at]}
        waiting = list(came)
        at = 0
        while at < len(waiting):
            pair = waiting[at]
            at += 1
            for letter, below in joint_moves(self._inner[pair[0]], self._inner[pair[1]]):
                if below[0] == below[1] and pair[0] != pair[1]:
                    start = first_of(came, pair)[0]
                    letters = [*labels_to(came, pair), letter, *self._way_inside(below[0], start)]
                    return start, letters, start
                if below not in came:
                    came[below] = (pair, letter)
                    waiting.append(below)
        return None

    def _fed(self):
        """A loop from a state of one group to itself and to a state of another group, and from this one to itself."""
        loops = self._joint_loops()
        came = {(first, first, second): None for first, second in loops}
        waiting = list(came)
        at = 0
        while at < len(waiting):
            triple = waiting[at]
            at += 1
            first, middle, second = triple
            for letter, below in loops[(first, second)]:
                for inner in self._moves[middle].get(letter, []):
                    new = (below[0], inner, below[1])
                    if inner == below[1]:
                        start = first_of(came, triple)
                        pair = (start[0], start[2])
                        letters = [*labels_to(came, triple), letter, *shortest_way(loops, below, pair)]
                        return pair[0], letters, pair[1]
                    if new not in came and below[1] in self._reached[inner]:
                        came[new] = (triple, letter)
                        waiting.append(new)
        return None

    def _joint_loops(self):
        """The steps of pairs of states of two groups, the second one reached from the first one, that lie on loops."""
        moves = {}
        looping = [at for at in self._reached if self._inner[at]]
        for first in looping:
            for second in looping:
                same_site = self.states[first][0] == self.states[second][0]
                if same_site and second in self._reached[first] and self._groups[first] != self._groups[second]:
                    moves[(first, second)] = joint_moves(self._inner[first], self._inner[second])
        groups = components({pair: [below for _, below in moves[pair]] for pair in moves})
        loops = {}
        for pair in moves:
            same = [move for move in moves[pair] if groups[move[1]] == groups[pair]]
            if same:
                loops[pair] = same
        return loops


def nexts_of(moves):
    """The list of the states to which moves lead, each once."""
    found = {}
    for letter in moves:
        for after in moves[letter]:
            found[after] = True
    return list(found)


def pairs_of(moves):
    """The list of the pairs of a letter and a next state."""
    return [(letter, after) for letter in moves for after in moves[letter]]


def joint_moves(moves, others):
    """The list of the pairs of a letter and a pair of next states to which it leads."""
    found = []
    for letter in moves:
        for after in moves[letter]:
            found.extend([(letter, (after, other)) for other in others.get(letter, [])])
    return found
