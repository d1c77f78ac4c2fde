"""The rounds of a loop, one behind the other."""

from textloops.exploring import explored
from textloops.machines import least_machine, mapped
from textloops.rears import Rears


class Rounds:
    """A loop whose block has a machine of effects; the last name of this machine is that of the loop."""

    def __init__(self, book, machine, way):
        self.book = book
        self.machine = machine
        self.is_up = way == "up"
        self.rears = Rears(machine)
        self.known = {}
        self.ends = {}

    def whole(self, entering, met):
        """Returns the machine of the effects of all rounds.

        The effects are needed for the entering standings alone; rounds begin in the met ones.
        """
        machine = self.machine
        first = self.book.staying(entering if self.is_up else met)
        start = (0, tuple([first for _ in self.rears.rears[machine.lefts[0] - self.rears.last]]))

        def row_of(key):
            state, effects = key
            return self.row_behind(state, effects)

        keys, rows = explored(start, row_of)
        lefts = [machine.lefts[state] - self.rears.last for state, _ in keys]
        answers = [effects[0] if left == 0 else None for left, (_, effects) in zip(lefts, keys)]
        found = least_machine(machine.width, machine.count - 1, rows, answers, lefts)
        if self.is_up:
            return found
        mask = self.book.staying(entering)
        return mapped(found, lambda answer: self.book.then(mask, answer))

    def row_behind(self, state, effects):
        """Returns the row of what is kept behind each letter: a state and, for each rear, the effect of the rounds."""
        machine = self.machine
        left = machine.lefts[state] - self.rears.last
        moves = machine.moves[state]
        shift = self.rears.last * machine.width
        row = []
        for entry in range(shift):
            chosen = entry // machine.width
            if chosen & left != chosen:
                row.append(None)
            else:
                row.append((moves[entry], self.effects_behind(effects, left - chosen, entry, moves[entry + shift])))
        return row

    def effects_behind(self, effects, left, entry, placed):
        """Returns the effects of the rounds when the entry's letter is read; the loop's place leads to `placed`."""
        key = (effects, entry, placed)
        if key not in self.known:
            if placed not in self.ends:
                self.ends[placed] = self.rears.answers_of(placed)
            ahead = [effects[rear] for rear in self.rears.before[left][entry]]
            pairs = list(zip(ahead, self.ends[placed]))
            if self.is_up:
                self.known[key] = tuple([self.book.then(one, other) for one, other in pairs])
            else:
                self.known[key] = tuple([self.book.then(other, one) for one, other in pairs])
        return self.known[key]
