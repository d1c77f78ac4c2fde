"""At which places, and with which marks, statements are begun, and what is printed there."""

from textloops.asking import first_text
from textloops.checks import check_names
from textloops.conditions import check_test_form, check_test_names
from textloops.foretelling import word_of
from textloops.freezing import frozen
from textloops.limits import check_limit, check_spot
from textloops.machines import limited, machine_reader, mapped
from textloops.printings import Printings
from textloops.reaching import Reaching


def reach(program, spot):
    """Returns the reader that answers False, or the truth values of the marks with which the statement is begun."""
    check_spot(program, spot)
    reaching = Reaching(program)
    nowhere = reaching.nowhere(spot)

    def truths(standing):
        return False if standing == nowhere else reaching.standings.truths(spot, standing)

    return machine_reader(mapped(reaching.machine(spot), truths), program.reads, program.spots[spot][1])


def come_to(program, spot, *, within=None):
    """Returns a word for whether the statement is always begun, and the least placed texts that show it."""
    check_spot(program, spot)
    check_limit(program.reads, within)
    # The empty string is the answer for the texts that are not let by.
    machine = limited(Reaching(program).begun(spot), within, "")
    reader = machine_reader(machine, program.reads, program.spots[spot][1])
    begun = first_text(reader, [True])
    missed = first_text(reader, [False])
    return (word_of(begun, missed, "always"), begun, missed)


def claim(program, spot, test, *, within=None):
    """Returns the least placed text for which the statement is begun while the test does not hold, or None."""
    check_spot(program, spot)
    test = frozen(test)
    _, loops, marks = program.spots[spot]
    check_test_form(test, spot)
    check_test_names(test, program.reads, loops, marks)
    check_limit(program.reads, within)
    failing = Reaching(program).chosen(spot, test, lambda pair, standing, nowhere: pair[1])
    return first_text(machine_reader(limited(failing, within, False), program.reads, loops), [True])


def printed_at(program, names):
    """Returns the reader that answers what is printed with the birth that has these names and the places."""
    check_names(names)
    wanted = tuple(sorted(names))
    return machine_reader(Printings(program).machine(wanted), program.reads, wanted)
