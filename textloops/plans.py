"""Readers that are worked out while they are asked for texts and places."""

from textloops.readers import sets_at
from textloops.searching import Seeker


class Plan(Seeker):
    """What a reader with `count` names over `width` letters does that goes from key to key, beginning with the start.

    A class below has two methods: `row_of(key)` returns the row of the keys (or None) behind a key, with the entry
    indexes of a reader; `is_end(key)` holds only if all names are placed.
    """

    def __init__(self, width, count, start):
        super().__init__([start])
        self.width = width
        self.count = count
        self.rows = {}

    def row(self, key):
        if key not in self.rows:
            self.rows[key] = self.row_of(key)
        return self.rows[key]

    def behind(self, key):
        """Returns, for each letter, the list of the keys behind it, whatever is placed at it."""
        row = self.row(key)
        return [[entry for entry in row[letter::self.width] if entry is not None] for letter in range(self.width)]

    def leads_to_end(self, letters):
        """Tells whether there are places with which the letters lead to an end."""
        fronts, _ = self.steps_forward(letters, ())
        return any([self.is_end(key) for key in fronts[-1]])

    def first_places(self, letters):
        """Returns the first places, in ascending order, with which the letters lead to an end; such are there."""
        places = ()
        while len(places) < self.count:
            found = self.next_places(letters, places)
            places = (*places, found[0])
        return places

    def next_places(self, letters, begun):
        """Returns, in ascending order, the places of the next name with which the places begun can be completed."""
        fronts, steps = self.steps_forward(letters, begun)
        alive = {key: True for key in fronts[-1] if self.is_end(key)}
        found = []
        for place in range(len(letters) - 1, -1, -1):
            step = steps[place]
            placing = [key for key in fronts[place] if has_any(step[key][1], alive)]
            passing = [key for key in fronts[place] if has_any(step[key][0], alive)]
            if placing:
                found.append(place)
            alive = {key: True for key in placing + passing}
        return found[::-1]

    def steps_forward(self, letters, begun):
        """Returns the lists of keys before, between and behind the letters, and the steps of each of these keys."""
        sets = sets_at(begun)
        known = {}
        fronts = [list(self.starts)]
        steps = []
        for place, letter in enumerate(letters):
            chosen = sets.get(place, 0)
            step = known.setdefault((letter, chosen), {})
            behind = {}
            for key in fronts[-1]:
                if key not in step:
                    step[key] = self.targets(key, letter, chosen, len(begun))
                for part in step[key]:
                    for target in part:
                        behind[target] = True
            steps.append(step)
            fronts.append(list(behind))
        return (fronts, steps)

    def targets(self, key, letter, chosen, done):
        """Returns two lists of the keys behind a letter: without the next name placed at it, and with it.

        Of the names placed before, which are `done` many, just the chosen ones stand at the letter; the later ones are
        free.
        """
        found = [{}, {}]
        row = self.row(key)
        for free in range(1 << (self.count - done)):
            target = row[(chosen + (free << done)) * self.width + letter]
            if target is not None:
                found[free & 1][target] = True
        return [list(part) for part in found]


def has_any(keys, alive):
    return any([key in alive for key in keys])


class ReaderPlan(Plan):
    """Looks for a state of a reader, or machine, among the wished ones, which are given as a dict of True."""

    def __init__(self, width, count, moves, wished):
        super().__init__(width, count, 0)
        self.moves = moves
        self.wished = wished

    def row_of(self, key):
        return self.moves[key]

    def is_end(self, key):
        return key in self.wished


class PairPlan(Plan):
    """Looks for a pair of states, without names left, of two machines whose answers differ."""

    def __init__(self, one, two):
        super().__init__(one.width, one.count, (0, 0))
        self.one = one
        self.two = two

    def row_of(self, key):
        rows = (self.one.moves[key[0]], self.two.moves[key[1]])
        return [None if entry is None else (entry, other) for entry, other in zip(*rows)]

    def is_end(self, key):
        return self.one.lefts[key[0]] == 0 and self.one.answers[key[0]] != self.two.answers[key[1]]
