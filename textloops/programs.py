"""Programs, and what their statements must be."""

from textloops.checks import check_alphabet, check_name, check_text
from textloops.conditions import check_known, check_test_form, check_test_names, first_word
from textloops.errors import BadCopy, BadStatement, BadText, DoubleName
from textloops.freezing import flat, frozen

# How many items a statement has, by its first word.
STATEMENT_SIZES = {"for": 4, "mark": 3, "set": 2, "clear": 2, "if": 4, "print": 2, "copy": 2}


class Program:
    """A program; `spots` has the kind of each statement and the names of the loops and of the marks around it."""

    def __init__(self, reads, prints, block):
        check_alphabet(reads)
        check_alphabet(prints)
        self.reads = reads
        self.prints = prints
        self.block = frozen(block)
        self.spots = checked_spots(reads, prints, self.block)

    @property
    def size(self):
        """The number of statements."""
        return len(self.spots)

    @property
    def depth(self):
        """The greatest number of loops that lie within one another."""
        return max([len(loops) + 1 for kind, loops, _ in self.spots if kind == "for"], default=0)

    def __iter__(self):
        return iter(self.spots)

    def __eq__(self, other):
        return (
            isinstance(other, Program) and self.reads == other.reads and self.prints == other.prints
            and flat(self.block) == flat(other.block)
        )


def blocks_within(statement):
    """Returns the blocks that stand in the statement itself."""
    if statement[0] == "for":
        return (statement[3],)
    if statement[0] == "mark":
        return (statement[2],)
    if statement[0] == "if":
        return (statement[2], statement[3])
    return ()


def checked_spots(reads, prints, block):
    """Returns the entries of the spots of a program's block; raises the first error of the first wrong statement."""
    spots = []
    taken = {}
    waiting = [(statement, (), ()) for statement in block[::-1]]
    while waiting:
        statement, loops, marks = waiting.pop()
        check_form(statement, len(spots))
        check_taking(statement, taken)
        check_parts(statement, reads, prints, loops, marks)
        spots.append((statement[0], loops, marks))
        if statement[0] == "for":
            loops = (*loops, statement[1])
        if statement[0] == "mark":
            marks = (*marks, statement[1])
        for inner in blocks_within(statement)[::-1]:
            waiting.extend([(part, loops, marks) for part in inner[::-1]])
    return tuple(spots)


def check_form(statement, spot):
    """Raises BadStatement if the statement, or its test, has none of the forms."""
    if STATEMENT_SIZES.get(first_word(statement), -1) != len(statement):
        raise BadStatement(spot)
    if statement[0] == "for" and statement[2] not in ("up", "down"):
        raise BadStatement(spot)
    if statement[0] == "if":
        check_test_form(statement[1], spot)


def check_taking(statement, taken):
    """Raises an error if a loop or mark cannot have its name; `taken` has the names of those before, and gets it."""
    if statement[0] in ("for", "mark"):
        check_name(statement[1])
        if statement[1] in taken:
            raise DoubleName(statement[1])
        taken[statement[1]] = True


def check_parts(statement, reads, prints, loops, marks):
    """Raises the first error of what a statement uses; the names are those of the loops and marks around it."""
    if statement[0] in ("set", "clear"):
        check_known(statement[1], marks)
    elif statement[0] == "if":
        check_test_names(statement[1], reads, loops, marks)
    elif statement[0] == "print":
        if statement[1] == "":
            raise BadText("", 0)
        check_text(statement[1], prints)
    elif statement[0] == "copy":
        check_known(statement[1], loops)
        check_copy(reads, prints)


def check_copy(reads, prints):
    for letter in reads:
        if letter not in prints:
            raise BadCopy(letter)
