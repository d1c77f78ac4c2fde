"""Programs one behind the other."""

from textloops.errors import DifferentAlphabets
from textloops.programs import Program
from textloops.weaving import Weaving


def behind(first, second):
    """Returns a program that prints what the second one prints on the text that the first one prints."""
    if first.prints != second.reads:
        raise DifferentAlphabets()
    return Program(first.reads, second.prints, Weaving(first, second).made())


def copying(alphabet):
    """Returns the program that prints the text itself."""
    return Program(alphabet, alphabet, (("for", "x", "up", (("copy", "x"),)),))


def row_of(programs):
    """Returns a program that does what all of the programs do one behind the other."""
    for first, second in zip(programs, programs[1:]):
        if first.prints != second.reads:
            raise DifferentAlphabets()
    made = programs[0]
    for program in programs[1:]:
        made = behind(made, program)
    return made
