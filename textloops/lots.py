"""What two texts that are gone over side by side have in common in their lots of births."""

from textloops.exploring import explored
from textloops.weights import leading_states


class Lots:
    """What is printed with sets of names, told by machines whose answers are the letters in alphabetical order.

    A rear is what a rest of a text makes of the states without names left: a tuple of answers. `offsets` has, for each
    machine, a dict of the indexes of its states in the rears; `rears` has all rears, that of the empty rest first. For
    the number of a rear and a letter, `longer` has the number of the rear when the letter stands before the rest, and
    `shorter` the list of those of which this has become the rear when the letter was put before the rest.
    """

    def __init__(self, width, machines):
        self.width = width
        self.machines = machines
        self.offsets = []
        states = []
        for number, machine in enumerate(machines):
            ends = [state for state, left in enumerate(machine.lefts) if left == 0]
            self.offsets.append({state: len(states) + index for index, state in enumerate(ends)})
            states.extend([(number, state) for state in ends])
        # From the states that are not loud all answers are the empty string.
        self.loud = []
        for machine in machines:
            self.loud.append({state: True for state in leading_states(machine, lambda word: word != "")})
        steps = []
        for letter in range(width):
            steps.append([self.offsets[number][machines[number].moves[state][letter]] for number, state in states])
        empty = tuple([machines[number].answers[state] for number, state in states])
        self.rears, self.longer = explored(empty, lambda rear: [tuple([rear[at] for at in step]) for step in steps])
        self.shorter = [[[] for _ in range(width)] for _ in self.rears]
        for rest, row in enumerate(self.longer):
            for letter, rear in enumerate(row):
                self.shorter[rear][letter].append(rest)
        self.numbers = {}
        self.pairs = []
        self.known = {}
        self.known_pairs = {}

    def first_pairs(self):
        """Returns what `pairs_behind` does, for the beginning of both texts."""
        mask = 0
        ends = []
        for number, machine in enumerate(self.machines):
            if machine.lefts[0] == 0:
                ends.append((self.offsets[number][0], self.offsets[number][0]))
            else:
                mask |= self.bit(number, 0, 0)
        return (mask, ends)

    def bit(self, number, one, two):
        """Returns the number that stands, in sums, for a pair of states of a machine."""
        pair = (number, one, two)
        if pair not in self.numbers:
            self.numbers[pair] = len(self.pairs)
            self.pairs.append(pair)
        return 1 << self.numbers[pair]

    def pairs_in(self, mask):
        """Returns the pairs of states, each one behind the number of its machine, for which the sum stands."""
        return [pair for index, pair in enumerate(self.pairs) if mask >> index & 1]

    def pairs_behind(self, mask, one, two):
        """Goes on by a letter in each text from pairs of states with names left, which are given as a sum.

        Returns the sum for those with names left behind the letters, and pairs of offsets for those without names left,
        for which the answers have to be the same ones. If the first letter is None, the first text has ended: then None
        stands for its states, too, and the answers have to be empty.
        """
        key = (mask, one, two)
        if key not in self.known:
            kept = 0
            ends = {}
            for pair in self.pairs_in(mask):
                more, found = self.pair_behind(pair, one, two)
                kept |= more
                ends.update(found)
            self.known[key] = (kept, list(ends))
        return self.known[key]

    def pair_behind(self, pair, one, two):
        """Returns what `pairs_behind` does, for one pair, with a dict of True for the ends."""
        key = (pair, one, two)
        if key not in self.known_pairs:
            self.known_pairs[key] = self.placed(pair, one, two)
        return self.known_pairs[key]

    def placed(self, pair, one, two):
        """Works out what is behind the letters for a pair."""
        number, first, second = pair
        machine = self.machines[number]
        offsets, loud = self.offsets[number], self.loud[number]
        kept = 0
        ends = {}
        for chosen in range(1 << machine.count):
            state = self.target(machine, first, one, chosen)
            fellow = self.target(machine, second, two, chosen)
            if fellow is not None and (state in loud or fellow in loud):
                if machine.lefts[fellow] == 0:
                    ends[(None if state is None else offsets[state], offsets[fellow])] = True
                else:
                    kept |= self.bit(number, state, fellow)
        return (kept, ends)

    def target(self, machine, state, letter, chosen):
        return None if state is None or letter is None else machine.moves[state][chosen * self.width + letter]

    def agree(self, ends, one, two):
        """Tells whether the rests with these rears lead to the same answers at the ends; None is the ended text."""
        for first, second in ends:
            answer = "" if one is None else self.rears[one][first]
            if answer != self.rears[two][second]:
                return False
        return True
