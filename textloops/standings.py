"""Standings: the truth values of the marks around a statement together with the state of a watcher."""

from textloops.asking import end_state
from textloops.checks import letter_indexes
from textloops.conditions import chances, simple_tests


class Standings:
    """The standings at the spots of a program; `marks` has the names of the marks around each spot."""

    def __init__(self, program, outline, watcher):
        self.reads = program.reads
        self.watcher = watcher
        self.statements = outline.statements
        self.marks = [marks for _, _, marks in program.spots]

    def total(self, spot):
        """Returns how many standings there are at the spot."""
        return self.watcher.size << len(self.marks[spot])

    def behind_word(self, spot, word):
        """Returns the list of the standings to which printing the word leads."""
        size = self.watcher.size
        letters = letter_indexes(word, self.watcher.alphabet)
        steps = [end_state(self.watcher, state, letters) for state in range(size)]
        return [standing - standing % size + steps[standing % size] for standing in range(self.total(spot))]

    def behind_mark(self, spot):
        """Returns the list of the standings to which the statement leads, a `set` or a `clear`."""
        word, name = self.statements[spot]
        names = self.marks[spot]
        worth = self.watcher.size << (len(names) - 1 - names.index(name))
        found = []
        for standing in range(self.total(spot)):
            others = standing - worth if standing // worth % 2 else standing
            found.append(others + worth if word == "set" else others)
        return found

    def with_mark(self, standing):
        """Returns the standing within a mark that has just been made False."""
        size = self.watcher.size
        return standing // size * 2 * size + standing % size

    def without_mark(self, standing):
        """Returns the standing behind a mark when its block ends in the given one."""
        size = self.watcher.size
        return standing // (2 * size) * size + standing % size

    def truths(self, spot, standing):
        """Returns the truth values of the marks around the spot, from the outermost to the innermost one."""
        number = standing // self.watcher.size
        count = len(self.marks[spot])
        return tuple([number >> (count - 1 - index) & 1 == 1 for index in range(count)])

    def test_chances(self, spot, test, known):
        """Returns, for each standing at the spot, whether the test may hold and whether it may fail.

        `known` has the truth values of simple tests of letters and places that are sure.
        """
        pairs = {part: (True, True) for part in simple_tests(test)}
        for part, truth in known.items():
            pairs[part] = (truth, not truth)
        found = []
        for standing in range(0, self.total(spot), self.watcher.size):
            for name, truth in zip(self.marks[spot], self.truths(spot, standing)):
                pairs[("mark", name)] = (truth, not truth)
            pair = chances(test, pairs)
            found.extend([pair for _ in range(self.watcher.size)])
        return found
