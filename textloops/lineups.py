"""For which texts the rows of births of two programs differ."""

from textloops.machines import are_equal, joined, limited, mapped
from textloops.plans import PairPlan
from textloops.searching import Seeker, least_found
from textloops.weights import worthy_states


def least_row_parting(one, two, within):
    """Returns the least text for which the rows of births of two programs, told by their printings, differ, or None."""
    seekers = [PairPlan(first, second) for first, second in word_pairs(one, two, within)]
    seekers.extend(Lineup(one, two, within).seekers())
    return least_found(one.program.reads, seekers)


def word_pairs(one, two, within):
    """Returns pairs of the machines of what both programs print with a set of names, where these differ."""
    found = []
    for names in sorted(set([*one.chains, *two.chains])):
        first, second = [limited(printings.machine(names), within, "") for printings in (one, two)]
        if not are_equal(first, second):
            found.append((first, second))
    return found


class Lineup:
    """Finds out where letters with two births are printed in different orders by two programs.

    All other texts for which the rows of births differ are those for which the letters of one birth differ. So here it
    does not matter with which one of the programs the births are told.
    """

    def __init__(self, one, two, within):
        self.programs = (one, two)
        self.sets = [names for names in sorted(one.chains) if names in two.chains]
        self.printing = {}
        for names in self.sets:
            machine = mapped(one.machine(names), lambda word: word != "")
            self.printing[names] = limited(machine, within, False)

    def seekers(self):
        """Returns what looks for texts with two births, of which the order differs."""
        found = []
        for first in self.sets:
            for second in self.sets:
                if first <= second:
                    found.extend(self.order_seekers(first, second))
                if len(first) < len(second) and all([name in second for name in first]):
                    found.extend(self.split_seekers(first, second))
        return found

    def order_seekers(self, first, second):
        """Returns what looks for births of these sets of which another one is the first one in the other program."""
        shared = [name for name in first if name in second]
        one, two = [program.ways(first)[:len(shared)] for program in self.programs]
        # If the shared loops are the same in both programs, only births at the same places of theirs can differ.
        rows = [tuple([0 for _ in shared])] if one == two else all_signs(len(shared))
        wanted = []
        for signs in rows:
            befores = [is_before(program, first, second, shared, signs) for program in self.programs]
            if befores[0] != befores[1]:
                wanted.append(signs)
        return [TwoBirths((first, second), (self.printing[first], self.printing[second]), wanted)] if wanted else []

    def split_seekers(self, first, second):
        """Returns what looks for a birth between whose letters the loop further in does not stand at the same point."""
        before = []
        for program in self.programs:
            end = program.loop_spots[program.chains[second][len(first)]]
            before.append(program.machine_to(first, end))
        if are_equal(*before):
            return []
        split = joined(*before, differ)
        return [TwoBirths((first, second), (split, self.printing[second]), [tuple([0 for _ in first])])]


def differ(one, two):
    return one != two


def all_signs(count):
    """Returns all rows of so many signs: -1 for an earlier place, 0 for the same one, 1 for a later one."""
    found = [()]
    for _ in range(count):
        found = [(*signs, sign) for signs in found for sign in (-1, 0, 1)]
    return found


def is_before(program, first, second, shared, signs):
    """Tells whether the letters of a birth with the first names are printed before those of one with the second names.

    The signs tell how its places lie to those of the other one, for the shared names. The answer is None if this does
    not decide it.
    """
    depth = len(shared)
    for name, is_up in program.ways(first)[:depth]:
        sign = signs[shared.index(name)]
        if sign != 0:
            return (sign == -1) == is_up
    if depth in (len(first), len(second)):
        return None
    return program.loop_spots[program.chains[first][depth]] < program.loop_spots[program.chains[second][depth]]


class TwoBirths(Seeker):
    """Looks for a text with two births, told by two machines, of whose places the signs are wanted ones.

    It keeps a state of each machine, and the signs of the names in both sets; a sign is None if it is not known yet.
    """

    def __init__(self, sets, machines, wanted):
        self.machines = machines
        self.worthy = [{state: True for state in worthy_states(machine)} for machine in machines]
        self.shared = []
        for index, name in enumerate(sets[0]):
            if name in sets[1]:
                self.shared.append((1 << index, 1 << sets[1].index(name)))
        self.hopeful = {signs: True for signs in wanted}
        for index in range(len(self.shared)):
            for signs in list(self.hopeful):
                without_one = (*signs[:index], None, *signs[index + 1:])
                self.hopeful[without_one] = True
        self.known = {}
        start = (0, 0, tuple([None for _ in self.shared]))
        super().__init__([start] if 0 in self.worthy[0] and 0 in self.worthy[1] else [])

    def is_end(self, key):
        """Tells whether both births are there; their signs are known then."""
        return self.machines[0].answers[key[0]] is True and self.machines[1].answers[key[1]] is True

    def behind(self, key):
        """Returns, for each letter, the list of what can be kept behind it."""
        state, fellow, signs = key
        found = []
        for letter in range(self.machines[0].width):
            targets = {}
            for chosen, target in self.options(0, state, letter):
                for other, follower in self.options(1, fellow, letter):
                    after = self.signs_behind(signs, chosen, other)
                    if after in self.hopeful:
                        targets[(target, follower, after)] = True
            found.append(list(targets))
        return found

    def options(self, number, state, letter):
        """Returns pairs of the names placed at the letter and the state behind it, of one of the machines."""
        key = (number, state, letter)
        if key not in self.known:
            machine = self.machines[number]
            targets = machine.moves[state][letter::machine.width]
            pairs = [(chosen, target) for chosen, target in enumerate(targets) if target in self.worthy[number]]
            self.known[key] = pairs
        return self.known[key]

    def signs_behind(self, signs, chosen, other):
        """Returns the signs when these names of both sets are placed at the same letter."""
        found = []
        for sign, (first, second) in zip(signs, self.shared):
            is_first, is_second = chosen & first != 0, other & second != 0
            if sign is None and (is_first or is_second):
                sign = 0 if is_first and is_second else -1 if is_first else 1
            found.append(sign)
        return tuple(found)
