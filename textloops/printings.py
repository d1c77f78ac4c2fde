"""What a program prints, for each set of loops around printing statements."""

from textloops.machines import constant_machine, joined, reordered
from textloops.reaching import Reaching


class Printings:
    """Machines of the letters that a program prints with the births of a set of names.

    Sets of names are tuples in alphabetical order. `chains` has, for each set of loops around a statement that prints,
    the names of these loops from the outermost to the innermost one. By name, `loop_spots` has the spots of all loops,
    and `goes_up` tells whether they go up.
    """

    def __init__(self, program):
        self.program = program
        self.reaching = Reaching(program)
        self.chains = {}
        for kind, loops, _ in program.spots:
            if kind in ("print", "copy"):
                self.chains[tuple(sorted(loops))] = loops
        self.loop_spots = {}
        self.goes_up = {}
        for spot, statement in enumerate(self.reaching.outline.statements):
            if statement[0] == "for":
                self.loop_spots[statement[1]] = spot
                self.goes_up[statement[1]] = statement[2] == "up"
        self.found = {}

    def machine(self, names):
        """Returns the machine whose answer is the string of the letters, in the order of printing."""
        return self.machine_to(names, self.program.size)

    def machine_to(self, names, end):
        """Returns the machine of the letters that are printed by statements with smaller spots than the end."""
        key = (names, end)
        if key not in self.found:
            self.found[key] = self.worked_out(names, end)
        return self.found[key]

    def worked_out(self, names, end):
        machine = constant_machine(len(self.program.reads), len(names), "")
        for spot in self.reaching.printing_spots(names):
            if spot < end:
                machine = joined(machine, self.reaching.printed(spot), added)
        order = [names.index(name) for name in self.chains.get(names, names)]
        return reordered(machine, order)

    def ways(self, names):
        """Returns, from the outermost to the innermost one, pairs of a loop's name and whether it goes up."""
        return [(name, self.goes_up[name]) for name in self.chains[names]]


def added(one, two):
    return one + two


def sorted_word(word):
    return "".join(sorted(word))


def sorted_sets(sets):
    """Returns the different sets of names, those with fewer names first, then in ascending order."""
    return sorted(sorted(set(sets)), key=lambda names: len(names))
