"""Whether two programs print the same letters with the same births."""

from textloops.errors import DifferentAlphabets
from textloops.limits import check_limit
from textloops.lineups import least_row_parting, word_pairs
from textloops.machines import mapped
from textloops.plans import PairPlan
from textloops.printings import Printings, sorted_word
from textloops.running import births
from textloops.searching import least_found
from textloops.weights import Weights, least_worthy


def same_lot(one, two, *, within=None):
    """Returns None if both print each letter equally often with each birth, otherwise `(text, birth)`."""
    check_comparable(one, two, within)
    plans = []
    for first, second in word_pairs(Printings(one), Printings(two), within):
        plans.append(PairPlan(mapped(first, sorted_word), mapped(second, sorted_word)))
    text = least_found(one.reads, plans)
    return None if text is None else (text, first_unequal_birth(births(one, text), births(two, text)))


def same_row(one, two, *, within=None):
    """Returns None if both have the same row of births, otherwise `(text, index)`."""
    check_comparable(one, two, within)
    text = least_row_parting(Printings(one), Printings(two), within)
    return None if text is None else (text, first_unequal_index(births(one, text), births(two, text)))


def same_letters(one, two, *, within=None):
    """Returns None if both print each letter equally often, otherwise `(text, letter)`."""
    check_comparable(one, two, within)
    pairs = word_pairs(Printings(one), Printings(two), within)
    found = []
    for letter in one.prints:
        machines = []
        for first, second in pairs:
            machines.append(mapped(first, lambda word: word.count(letter)))
            machines.append(mapped(second, lambda word: -word.count(letter)))
        text = least_worthy(Weights(len(one.reads), machines), one.reads)
        if text is not None:
            found.append((len(text), text, letter))
    return min(found)[1:] if found else None


def check_comparable(one, two, within):
    if one.reads != two.reads or one.prints != two.prints:
        raise DifferentAlphabets()
    check_limit(one.reads, within)


def first_unequal_birth(one, two):
    """Returns the first birth, in ascending order, with which some letter does not stand equally often in both rows."""
    counts = {}
    for row, times in ((one, 1), (two, -1)):
        for pair in row:
            counts[pair] = counts.get(pair, 0) + times
    return min([birth for (_, birth), count in counts.items() if count != 0])


def first_unequal_index(one, two):
    """Returns the first index at which the rows differ; it may be the length of the shorter one."""
    for index, (pair, other) in enumerate(zip(one, two)):
        if pair != other:
            return index
    return min(len(one), len(two))
