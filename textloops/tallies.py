"""Tallies: how many letters a program prints, for all texts."""

from textloops.checks import letter_indexes
from textloops.counts import check_counting, count_machines
from textloops.errors import DifferentAlphabets
from textloops.quotients import common_bottom, lowest, lowest_row, mixed
from textloops.recurrences import far_powers
from textloops.spans import Span
from textloops.weights import Weights, product_sum


class Tally:
    """The count of each text, told by the counts behind the texts of a basis.

    `tables` has, for each letter and each text of the basis, the tops of the factors of this text in `steps`, all with
    one `bottom`.
    """

    def __init__(self, alphabet, basis, steps, ends):
        self.alphabet = alphabet
        self.basis = basis
        self.steps = steps
        self.ends = ends
        self.bottom = common_bottom([pair for row in steps for factors in row for pair in factors])
        self.tables = []
        for letter in range(len(alphabet)):
            rows = [[top * (self.bottom // own) for top, own in row[letter]] for row in steps]
            self.tables.append([list(column) for column in zip(*rows)])

    def __call__(self, text):
        return worth(self, row_behind(self, first_row(self), letter_indexes(text, self.alphabet)))

    def __eq__(self, other):
        return (
            isinstance(other, Tally) and self.alphabet == other.alphabet and self.basis == other.basis
            and self.steps == other.steps and self.ends == other.ends
        )


def first_row(tally):
    """Returns the factors of the basis for the count behind the empty text."""
    return ([1 if index == 0 else 0 for index in range(len(tally.basis))], 1)


def row_behind(tally, row, letters):
    """Returns the factors of the basis behind further letters."""
    tops, bottom = row
    for letter in letters:
        tops, bottom = lowest_row(moved(tops, tally.tables[letter]), bottom * tally.bottom)
    return (tops, bottom)


def moved(tops, table):
    return [product_sum(tops, column) for column in table]


def worth(tally, row):
    """Returns the count of the text to which the factors belong."""
    tops, bottom = row
    return product_sum(tops, tally.ends) // bottom


def tally(program, *, letters=None, within=None):
    """Returns the tally of the program's count."""
    check_counting(program, letters, within)
    weights = Weights(len(program.reads), count_machines(program, letters, within))
    columns = columns_of(weights)
    span = Span()
    basis = []
    rows = []
    steps = []
    candidates = [("", weights.first_row())]
    # Texts come in text order, and behind a text that is not in the basis there is none that is.
    at = 0
    while at < len(candidates):
        text, row = candidates[at]
        at += 1
        factors = span.factors([product_sum(row, column) for column in columns])
        if factors is None:
            basis.append(text)
            rows.append(row)
            for letter, sign in enumerate(program.reads):
                candidates.append((text + sign, weights.row_behind(row, letter)))
            factors = ([0 for _ in rows[1:]] + [1], 1)
        steps.append(factors)
    ends = tuple([product_sum(row, weights.ends) for row in rows])
    return Tally(program.reads, tuple(basis), steps_of_basis(steps, len(program.reads), len(basis)), ends)


def columns_of(weights):
    """Returns columns of which those of all texts are sums of multiples; they tell what each state is worth."""
    span = Span()
    found = []
    waiting = [weights.ends]
    while waiting:
        column = waiting.pop()
        if span.factors(column) is None:
            found.append(column)
            waiting.extend([weights.column_before(column, letter) for letter in range(len(weights.rows))])
    return found


def steps_of_basis(factors, width, size):
    """Returns the steps of a tally; the factors are those of the empty text and of all texts one letter behind."""
    pairs = []
    for tops, bottom in factors[1:]:
        own = [lowest(top, bottom) for top in tops]
        pairs.append(tuple(own + [(0, 1) for _ in range(size - len(own))]))
    return tuple([tuple(pairs[begin:begin + width]) for begin in range(0, size * width, width)])


def far_count(tally, pieces):
    """Returns the count of the text in which each word of the pieces `(word, times)` stands so many times."""
    parts = [(letter_indexes(word, tally.alphabet), times) for word, times in pieces]
    row = first_row(tally)
    for letters, times in parts:
        row = row_behind_many(tally, row, letters, times)
    return worth(tally, row)


def row_behind_many(tally, row, letters, times):
    """Returns the factors of the basis behind the letters, so many times."""
    span = Span()
    rows = [row]
    factors = span.factors(row[0])
    while factors is None and len(rows) <= times:
        rows.append(row_behind(tally, rows[-1], letters))
        factors = span.factors(rows[-1][0])
    if len(rows) > times:
        return rows[times]
    # Each further row follows from as many rows before it. All counts are whole numbers, and so are these factors.
    tops, bottom = factors
    _, end = rows[-1]
    last = [top * own // (bottom * end) for top, (_, own) in zip(tops, rows)]
    return mixed(rows[:-1], far_powers(times, last)) if last else row


def total_count(tally, length):
    """Returns the sum of the counts of all texts of this length."""
    table = [[sum(cells) for cells in zip(*columns)] for columns in zip(*tally.tables)]
    tops, bottom = first_row(tally)
    for _ in range(length):
        tops, bottom = lowest_row(moved(tops, table), bottom * tally.bottom)
    return worth(tally, (tops, bottom))


def count_parting(one, two):
    """Returns the least text for which the counts of the tallies differ, or None."""
    if one.alphabet != two.alphabet:
        raise DifferentAlphabets()
    span = Span()
    candidates = [("", first_row(one), first_row(two))]
    at = 0
    while at < len(candidates):
        text, row, other = candidates[at]
        at += 1
        if worth(one, row) != worth(two, other):
            return text
        pair = [top * other[1] for top in row[0]] + [top * row[1] for top in other[0]]
        if span.factors(pair) is None:
            for letter, sign in enumerate(one.alphabet):
                candidates.append((text + sign, row_behind(one, row, [letter]), row_behind(two, other, [letter])))
    return None
