"""Machines that count printed letters."""

from textloops.checks import check_letters
from textloops.facts import facts_machine
from textloops.limits import check_limit
from textloops.machines import constant_machine, joined, limited, mapped
from textloops.reaching import Reaching


def check_counting(program, letters, within):
    """Raises BadLetters if the letters are neither None nor letters that the program prints, then WrongLimit."""
    if letters is not None:
        check_letters(letters, program.prints)
    check_limit(program.reads, within)


def count_machines(program, letters, within):
    """Returns machines; the count of a text is the sum of their answers for all places.

    There is one machine for each set of loops within which something is printed.
    """
    wanted = program.prints if letters is None else letters
    reaching = Reaching(program)
    machines = {}
    for spot, (kind, loops, _) in enumerate(program.spots):
        if kind in ("print", "copy"):
            if loops not in machines:
                machines[loops] = constant_machine(len(program.reads), len(loops), 0)
            machines[loops] = joined(machines[loops], counted_prints(reaching, spot, wanted), added)
    return [limited(machine, within, 0) for machine in machines.values()]


def added(one, two):
    return one + two


def counted_prints(reaching, spot, wanted):
    """Returns the machine that tells how many wanted letters the statement prints."""
    word, item = reaching.outline.statements[spot]
    if word == "print":
        count = len([letter for letter in item if letter in wanted])
        return mapped(reaching.begun(spot), lambda is_begun: count if is_begun else 0)
    reads = reaching.program.reads
    counting = [letter for letter in reads if letter in wanted]
    facts = facts_machine(reads, reaching.tabling.names(spot), [("in", item, letter) for letter in counting])
    counts = mapped(facts, lambda truths: 1 if True in truths else 0)
    return joined(counts, reaching.begun(spot), lambda count, is_begun: count if is_begun else 0)
