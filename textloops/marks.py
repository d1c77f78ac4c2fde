"""Programs that can do without marks."""

from textloops.checks import letter_indexes
from textloops.machines import mapped
from textloops.making import joined_block
from textloops.outlines import Outline
from textloops.plans import Plan
from textloops.printings import Printings, sorted_sets, sorted_word
from textloops.programs import Program
from textloops.searching import least_found
from textloops.shapes import printing_block


def markless(program):
    """Returns `(made, None)` with a program without marks that prints the same lot, or None and what shows why not."""
    if "mark" not in [kind for kind, _, _ in program.spots]:
        return (program, None)
    printings = Printings(program)
    machines = {names: mapped(printings.machine(names), sorted_word) for names in printings.chains}
    for names in sorted_sets(machines):
        found = unlike_texts(program.reads, machines[names])
        if found is not None:
            return (None, (names, *found))
    return (Program(program.reads, program.prints, block_without_marks(program, machines)), None)


def unlike_texts(alphabet, machine):
    """Returns the first two placed texts of the same shape for which the answers of the machine differ, or None."""
    plan = Shapes(machine)
    text = least_found(alphabet, [plan])
    if text is None:
        return None
    places = plan.first_places(letter_indexes(text, alphabet))
    # What shows the shape best is the text of the letters at the places alone.
    kept = sorted(set(places))
    first = ("".join([text[place] for place in kept]), tuple([kept.index(place) for place in places]))
    return (first, (text, places))


class Shapes(Plan):
    """Looks for a placed text for which a machine answers something else than for its letters at places alone.

    It keeps the states behind both of them.
    """

    def __init__(self, machine):
        super().__init__(machine.width, machine.count, (0, 0))
        self.machine = machine

    def row_of(self, key):
        state, short = key
        row = []
        for entry, target in enumerate(self.machine.moves[state]):
            if target is None:
                row.append(None)
            else:
                row.append((target, short if entry < self.width else self.machine.moves[short][entry]))
        return row

    def is_end(self, key):
        state, short = key
        return self.machine.lefts[state] == 0 and self.machine.answers[state] != self.machine.answers[short]


def block_without_marks(program, machines):
    """Returns the block of the program's loops alone, in which the letters are printed by the shapes of the places."""
    outline = Outline(program.block)
    made = [() for _ in outline.statements]
    for spot in range(len(made) - 1, -1, -1):
        inner = tuple([part for block in outline.blocks[spot] for part in joined_block(block, made)])
        statement = outline.statements[spot]
        if statement[0] == "for":
            names = tuple(sorted([*program.spots[spot][1], statement[1]]))
            inner = printed_with(program, machines, names) + inner
            inner = (("for", statement[1], statement[2], inner),) if inner else ()
        made[spot] = inner
    return printed_with(program, machines, ()) + joined_block(outline.block, made)


def printed_with(program, machines, names):
    """Returns the block that prints what the program prints with the births of these names."""
    return printing_block(program.reads, names, machines[names]) if names in machines else ()
