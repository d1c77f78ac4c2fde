"""The rounds of a loop that come before the round of a given place."""

from textloops.exploring import explored
from textloops.machines import least_machine


class Prefixes:
    """Works out the effects of the rounds before the one of the loop's place, which is a name of their machine, too.

    What is kept while a text is read: whether the loop's place has been met; a state of the rounds' machine (if the
    loop goes up, and its place has been met, the names left instead); and for each rear the effect of the rounds
    counted so far. These are the rounds before the loop's place if it goes up, and those behind it otherwise.
    """

    def __init__(self, rounds):
        self.rounds = rounds
        self.machine = rounds.machine
        self.loop = rounds.rears.last

    def made(self, entering, met):
        """Returns the machine; the effects are needed for the entering standings, rounds begin in the met ones."""
        rounds = self.rounds
        begun = rounds.beginning(entering, met)
        start = (False, 0, rounds.for_all_rears(begun, rounds.left_of(0)) if rounds.is_up else ())
        keys, rows = explored(start, lambda key: self.row_behind(key, begun))
        lefts = [self.left_of(key) for key in keys]
        answers = [effects[0] if left == 0 else None for left, (_, _, effects) in zip(lefts, keys)]
        return rounds.entered(least_machine(self.machine.width, self.machine.count, rows, answers, lefts), entering)

    def left_of(self, key):
        is_met, number, _ = key
        if not is_met:
            return self.machine.lefts[number]
        return number if self.rounds.is_up else self.rounds.left_of(number)

    def row_behind(self, key, begun):
        """Returns the row of what is kept behind each letter; `begun` is the effect of no rounds."""
        is_met, number, effects = key
        shift = self.loop * self.machine.width
        if is_met:
            return self.met_row(number, effects) + [None for _ in range(shift)]
        return self.open_row(number, effects) + self.meeting_row(number, effects, begun)

    def met_row(self, number, effects):
        """Returns the row without the loop's name when its place has been met."""
        if not self.rounds.is_up:
            return with_flag(True, self.rounds.row_behind(number, effects))
        row = []
        for entry in range(self.loop * self.machine.width):
            chosen = entry // self.machine.width
            if chosen & number != chosen:
                row.append(None)
            else:
                left = number - chosen
                row.append((True, left, self.rounds.shifted(effects, left, entry)))
        return row

    def open_row(self, state, effects):
        """Returns the row without the loop's name when its place is still to come."""
        if self.rounds.is_up:
            return with_flag(False, self.rounds.row_behind(state, effects))
        moves = self.machine.moves[state][:self.loop * self.machine.width]
        return [None if target is None else (False, target, ()) for target in moves]

    def meeting_row(self, state, effects, begun):
        """Returns the row with the loop's name, that is, for letters at its place."""
        rounds = self.rounds
        row = []
        for entry, target in enumerate(self.machine.moves[state][:self.loop * self.machine.width]):
            if target is None:
                row.append(None)
            elif rounds.is_up:
                left = rounds.left_of(target)
                row.append((True, left, rounds.shifted(effects, left, entry)))
            else:
                row.append((True, target, rounds.for_all_rears(begun, rounds.left_of(target))))
        return row


def with_flag(flag, row):
    """Returns the row of pairs with the flag in front of each of them."""
    return [None if pair is None else (flag, *pair) for pair in row]
