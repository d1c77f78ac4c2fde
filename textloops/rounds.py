"""The rounds of a loop, one behind the other."""

from textloops.exploring import explored
from textloops.machines import least_machine, mapped
from textloops.rears import Rears


class Rounds:
    """A loop whose block has a machine of effects; the last name of this machine is that of the loop."""

    def __init__(self, book, machine, way):
        self.book = book
        self.machine = machine
        self.is_up = way == "up"
        self.rears = Rears(machine)
        self.known = {}
        self.ends = {}

    def whole(self, entering, met):
        """Returns the machine of the effects of all rounds.

        The effects are needed for the entering standings alone; rounds begin in the met ones.
        """
        machine = self.machine
        begun = self.beginning(entering, met)

        def row_of(key):
            state, effects = key
            return self.row_behind(state, effects)

        keys, rows = explored((0, self.for_all_rears(begun, self.left_of(0))), row_of)
        lefts = [self.left_of(state) for state, _ in keys]
        answers = [effects[0] if left == 0 else None for left, (_, effects) in zip(lefts, keys)]
        return self.entered(least_machine(machine.width, machine.count - 1, rows, answers, lefts), entering)

    def beginning(self, entering, met):
        """Returns the effect of no rounds, for all standings for which the effects of rounds matter."""
        return self.book.staying(entering if self.is_up else met)

    def entered(self, machine, entering):
        """Returns the machine with its effects for the entering standings alone."""
        mask = self.book.staying(entering)
        return mapped(machine, lambda effect: self.book.then(mask, effect))

    def left_of(self, state):
        """Returns the names other than the loop's that are left in a state in which the loop's name is left."""
        return self.machine.lefts[state] - self.rears.last

    def for_all_rears(self, effect, left):
        """Returns a tuple that has the same effect for all rears of the rests that place these names."""
        return tuple([effect for _ in self.rears.rears[left]])

    def row_behind(self, state, effects):
        """Returns the row of what is kept behind each letter: a state and, for each rear, the effect of the rounds."""
        machine = self.machine
        left = self.left_of(state)
        moves = machine.moves[state]
        shift = self.rears.last * machine.width
        row = []
        for entry in range(shift):
            chosen = entry // machine.width
            if chosen & left != chosen:
                row.append(None)
            else:
                row.append((moves[entry], self.effects_behind(effects, left - chosen, entry, moves[entry + shift])))
        return row

    def effects_behind(self, effects, left, entry, placed):
        """Returns the effects of the rounds when the entry's letter is read; the loop's place leads to `placed`."""
        key = (effects, entry, placed)
        if key not in self.known:
            if placed not in self.ends:
                self.ends[placed] = self.rears.answers_of(placed)
            pairs = list(zip(self.shifted(effects, left, entry), self.ends[placed]))
            if self.is_up:
                self.known[key] = tuple([self.book.then(one, other) for one, other in pairs])
            else:
                self.known[key] = tuple([self.book.then(other, one) for one, other in pairs])
        return self.known[key]

    def shifted(self, effects, left, entry):
        """Returns the same effects for the rears of the rests behind the entry's letter, which place these names."""
        return tuple([effects[rear] for rear in self.rears.before[left][entry]])
