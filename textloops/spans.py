"""Which rows of whole numbers are sums of multiples of others."""

from math import gcd


class Span:
    """Rows none of which is a sum of multiples, with fractions as factors, of the ones before it."""

    def __init__(self):
        self.row_count = 0
        self.steps = []

    def factors(self, row):
        """Takes the row, and returns None, if it is no sum of multiples of the rows taken so far.

        Otherwise returns `(tops, bottom)`: the sum of the rows times the tops is the row times the bottom.
        """
        # Behind the row's own numbers stands what has been taken away so far: multiples of the rows, and of this row.
        width = len(row)
        rest = row + [0 for _ in range(self.row_count)] + [1]
        for pivot, step in self.steps:
            if rest[pivot] != 0:
                rest = without(rest, step, pivot, width)
        for pivot in range(width):
            if rest[pivot] != 0:
                self.steps.append((pivot, shortened(rest)))
                self.row_count += 1
                return None
        bottom = rest[-1]
        tops = [-top for top in rest[width:-1]]
        return (tops, bottom) if bottom > 0 else ([-top for top in tops], -bottom)


def without(rest, step, pivot, width):
    """Returns a multiple of the rest from which a multiple of the step is taken, so that the pivot becomes 0."""
    common = gcd(rest[pivot], step[pivot])
    times = step[pivot] // common
    taken = rest[pivot] // common
    # The step is shorter, for it was taken when there were fewer rows; its last number belongs to its own row.
    long_step = step + [0 for _ in range(len(rest) - len(step))]
    return [times * one - taken * two for one, two in zip(rest, long_step)]


def shortened(row):
    """Returns the row, divided by the greatest number that divides all its numbers."""
    common = 0
    for number in row:
        common = gcd(common, number)
        if common == 1:
            return row
    return [number // common for number in row]
