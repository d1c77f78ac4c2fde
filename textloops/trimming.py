"""Leaving out statements."""

from textloops.errors import NoNeighbour, NotAnIf
from textloops.limits import check_limit, check_spot
from textloops.lineups import least_row_parting
from textloops.making import replaced
from textloops.outlines import Outline
from textloops.printings import Printings
from textloops.programs import Program
from textloops.running import births


def struck(program, spot):
    """Returns the program without the statement at the spot."""
    check_spot(program, spot)
    return with_replaced(program, spot, 1, ())


def opened(program, spot, branch):
    """Returns the program in which the `if` at the spot is replaced by its first or second block."""
    check_spot(program, spot)
    statement = statement_at(program, spot)
    if statement[0] != "if":
        raise NotAnIf(spot)
    return with_replaced(program, spot, 1, statement[2 + branch])


def exchanged(program, spot):
    """Returns the program in which the statement and the next one of the same block have changed places."""
    check_spot(program, spot)
    outline = Outline(program.block)
    around = outline.block_around(spot)
    _, _, index = outline.homes[spot]
    if index + 1 == len(around):
        raise NoNeighbour(spot)
    return with_replaced(program, spot, 2, (outline.statements[around[index + 1]], outline.statements[spot]))


def statement_at(program, spot):
    return Outline(program.block).statements[spot]


def with_replaced(program, spot, count, block):
    """Returns the program with a block in the place of so many statements, from the spot on."""
    return Program(program.reads, program.prints, replaced(program, spot, count, block))


def needless(program, spot, *, within=None):
    """Returns None if the program without the statement has the same births, otherwise the least text that differs."""
    check_spot(program, spot)
    check_limit(program.reads, within)
    return least_row_parting(Printings(program), Printings(struck(program, spot)), within)


def trimmed(program, *, within=None):
    """Returns what is left of the program when all has been left out that the births can do without."""
    check_limit(program.reads, within)
    sameness = Sameness(program, within)
    size = -1
    while size != program.size:
        size = program.size
        for spot in range(size - 1, -1, -1):
            program = changed_at(program, spot, sameness)
    return program


def changed_at(program, spot, sameness):
    """Returns the first one of the smaller programs that does the same, or the program if there is none."""
    changes = [struck(program, spot)]
    if program.spots[spot][0] == "if":
        changes.extend([opened(program, spot, 0), opened(program, spot, 1)])
    for change in changes:
        if sameness.holds(change):
            return change
    return program


class Sameness:
    """Tells whether programs have the same births as a given one.

    `rows` has the births for texts that have shown that some program is another one; often they show it again.
    """

    def __init__(self, program, within):
        self.program = program
        self.within = within
        self.printings = Printings(program)
        self.rows = {}

    def holds(self, other):
        if any([births(other, text) != row for text, row in self.rows.items()]):
            return False
        text = least_row_parting(self.printings, Printings(other), self.within)
        if text is None:
            return True
        self.rows[text] = births(self.program, text)
        return False
