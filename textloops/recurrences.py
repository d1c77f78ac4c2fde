"""Rows that follow one another, each one a sum of multiples of the rows before it."""


def far_powers(times, last):
    """Returns the factors of the first rows in the row with the index `times`.

    `last` has the factors of the first rows in the one behind them, and each further row follows in the same way.
    """
    size = len(last)
    found = [1 if index == 0 else 0 for index in range(size)]
    for digit in range(times.bit_length() - 1, -1, -1):
        found = product(found, found, last)
        if times >> digit & 1:
            found = moved_on(found, last)
    return found


def moved_on(factors, last):
    """Returns the factors of the first rows in the row behind the one that has these factors."""
    top = factors[-1]
    return [before + top * factor for before, factor in zip([0, *factors[:-1]], last)]


def product(one, two, last):
    """Returns the factors for the sum of two indexes."""
    found = [0 for _ in last]
    # From the highest power down: what has been found moves on by one for each further factor.
    for factor in one[::-1]:
        found = moved_on(found, last)
        if factor != 0:
            found = [own + factor * other for own, other in zip(found, two)]
    return found
