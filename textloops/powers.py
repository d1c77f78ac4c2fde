"""How fast the number of printed letters grows with the text."""

from textloops.asking import first_text
from textloops.counts import check_counting, count_machines
from textloops.errors import Unbounded
from textloops.exploring import explored
from textloops.growth import Growth
from textloops.machines import mapped
from textloops.readers import Reader
from textloops.tallies import first_row, row_behind, tally, worth


def power(program, *, letters=None, within=None):
    """Returns `(degree, rounds)`: the least power of the length that bounds the count, and texts that show it."""
    check_counting(program, letters, within)
    best = None
    for machine in count_machines(program, letters, within):
        growth = Growth(mapped(machine, lambda count: count != 0))
        if growth.degree() >= 0 and (best is None or growth.degree() > best.degree()):
            best = growth
    if best is None:
        return (-1, ())
    words = ["".join([program.reads[letter] for letter in word]) for word in best.rounds()]
    return (best.degree(), tuple(words))


def greatest(program, *, letters=None, within=None):
    """Returns the greatest count and the least text that has it; raises Unbounded."""
    degree, rounds = power(program, letters=letters, within=within)
    if degree > 0:
        raise Unbounded(rounds)
    if degree == 0:
        return greatest_count(tally(program, letters=letters, within=within))
    if within is None:
        return (0, "")
    found = first_text(within, [True])
    return (0, None if found is None else found[0])


def greatest_count(made):
    """Returns the greatest count of a tally, which has only finitely many, and the least text that has it."""

    def row_of(row):
        behind = [row_behind(made, row, [letter]) for letter in range(len(made.alphabet))]
        return [(tuple(factors), below) for factors, below in behind]

    tops, bottom = first_row(made)
    keys, rows = explored((tuple(tops), bottom), row_of)
    reader = Reader(made.alphabet, rows, [worth(made, key) for key in keys])
    count = max(reader.answers)
    return (count, first_text(reader, [count])[0])
