"""Steps of a machine that can be repeated as often as one likes."""

from textloops.components import components
from textloops.paths import way_back


class Repeats:
    """Looks for words that lead one state to itself and to another one, and the other one to itself, too.

    `rows` has the states behind each state by the entries of a machine, or None, and `lefts` their names left. While
    such a word is read the pair of what both states are led to without placing a name comes back to the two; a third
    state is on the way from the one to the other.
    """

    def __init__(self, rows, lefts, width, ones):
        self.rows = rows
        self.lefts = lefts
        self.width = width
        self.ones = {one: True for one in ones}
        self.pairs = self.pairs_with_third()

    def pairs_with_third(self):
        """Returns a dict of True for the pairs of one of the states and the third state that the same words lead to."""
        waiting = [(one, one) for one in self.ones]
        met = {}
        while waiting:
            one, third = waiting.pop()
            for letter, target in enumerate(self.rows[one][:self.width]):
                if target in self.ones:
                    for further in self.rows[third][letter::self.width]:
                        if further is not None and (target, further) not in met:
                            met[(target, further)] = True
                            waiting.append((target, further))
        return met

    def step(self, others):
        """Returns a triple of one of the states, the letters of the word, and one of the other states, or None.

        The other states lead to one another. The third state becomes the other one: so only pairs met with it matter.
        """
        left = self.lefts[others[0]]
        wanted = {other: True for other in others}
        pairs = [pair for pair in self.pairs if pair[1] in wanted]
        moves = self.pair_moves(pairs)
        # A key is the number of a pair and the third state; at the beginning, before a name is placed, this is None.
        waiting = [(pair, None) for pair in range(len(pairs))]
        origins = {key: None for key in waiting}
        at = 0
        while at < len(waiting):
            pair, third = waiting[at]
            if third == pairs[pair][1]:
                return found_step(pairs, moves, origins, waiting[at])
            for key, letter in self.behind(pairs[pair][0], third, moves[pair], left):
                if key not in origins:
                    origins[key] = (waiting[at], letter)
                    waiting.append(key)
            at += 1
        return None

    def behind(self, one, third, row, left):
        """Returns pairs of a key and a letter before it; no name is placed then that has to be left at the end."""
        found = []
        for letter, pair in enumerate(row):
            if pair is not None:
                first = letter + self.width if third is None else letter
                for target in self.rows[one if third is None else third][first::self.width]:
                    if target is not None and self.lefts[target] & left == left:
                        found.append(((pair, target), letter))
        return found

    def pair_moves(self, pairs):
        """Returns, for each pair and letter, the number of the pair behind it, or None if no way leads back."""
        number_of = {pair: number for number, pair in enumerate(pairs)}
        moves = []
        for one, other in pairs:
            behind = list(zip(self.rows[one][:self.width], self.rows[other][:self.width]))
            moves.append([number_of.get(pair, None) for pair in behind])
        component_of = components([[target for target in row if target is not None] for row in moves])
        found = []
        for row, own in zip(moves, component_of):
            found.append([target if target is not None and component_of[target] == own else None for target in row])
        return found


def found_step(pairs, moves, origins, key):
    """Returns the triple of a repeatable step when the third state has become the other one in a pair."""
    letters = way_back(origins, key)
    goal = key
    while origins[goal] is not None:
        goal = origins[goal][0]
    # The third state goes with the other one now, back to where both began.
    back = {key[0]: None}
    waiting = [key[0]]
    at = 0
    while waiting[at] != goal[0]:
        for letter, target in enumerate(moves[waiting[at]]):
            if target is not None and target not in back:
                back[target] = (waiting[at], letter)
                waiting.append(target)
        at += 1
    one, other = pairs[goal[0]]
    return (one, [*letters, *way_back(back, goal[0])], other)
