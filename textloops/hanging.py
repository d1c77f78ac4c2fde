"""Whether the runs at a statement hang on letters at other places."""

from textloops.exploring import explored
from textloops.making import FreshNames
from textloops.reaches import reach
from textloops.readers import Reader
from textloops.searching import first_placing, least_text_with_places


def hangs(program, spot):
    """Returns the first `(text, places, z, letter)` for which the letter at z changes what `reach` answers, or None."""
    reader = reach(program, spot)
    exchanges = [Exchange(reader, letter).made() for letter in range(len(reader.alphabet))]
    text = least_text_with_places(exchanges)
    if text is None:
        return None
    found = []
    for letter, exchange in zip(reader.alphabet, exchanges):
        places = first_placing(exchange, text)
        if places is not None:
            found.append((places, letter))
    places, letter = min(found)
    return (text, places[:-1], places[-1], letter)


class Exchange:
    """Makes the reader that tells whether a letter, put at one more place, changes the answer of a reader.

    It keeps a pair of states, for the text as it is and for the text with the letter. Before the one more place the
    pair has one state only. If both are the same behind it, or if another name has this place, nothing changes: then
    the pair is None and the names left.
    """

    def __init__(self, reader, letter):
        self.reader = reader
        self.letter = letter
        self.width = len(reader.alphabet)
        self.more = 1 << len(reader.names)

    def made(self):
        keys, rows = explored((0,), self.row_behind)
        answers = [self.answer(key) for key in keys]
        names = (*self.reader.names, FreshNames(self.reader.names).fresh())
        return Reader(self.reader.alphabet, rows, answers, names=names, lefts=[self.left_of(key) for key in keys])

    def left_of(self, key):
        if len(key) == 1:
            return self.reader.lefts[key[0]] + self.more
        return key[1] if key[0] is None else self.reader.lefts[key[0]]

    def answer(self, key):
        """Returns the answer, or None if names are left."""
        if self.left_of(key) != 0:
            return None
        return key[0] is not None and self.reader.answers[key[0]] != self.reader.answers[key[1]]

    def pair(self, one, two):
        return (None, self.reader.lefts[one]) if one == two else (one, two)

    def row_behind(self, key):
        """Returns the row of what is kept behind each letter, first without the one more place, then with it."""
        moves = self.reader.moves
        nothing = [None for _ in range(self.more * self.width)]
        if len(key) == 1:
            plain = [None if target is None else (target,) for target in moves[key[0]]]
            return plain + self.meeting_row(moves[key[0]])
        if key[0] is None:
            return self.same_row(key[1]) + nothing
        row = []
        for one, two in zip(moves[key[0]], moves[key[1]]):
            row.append(None if one is None else self.pair(one, two))
        return row + nothing

    def meeting_row(self, row):
        """Returns what is kept behind letters at the one more place."""
        found = []
        for entry, target in enumerate(row):
            if entry < self.width:
                found.append(self.pair(target, row[self.letter]))
            else:
                found.append(None if target is None else (None, self.reader.lefts[target]))
        return found

    def same_row(self, left):
        """Returns what is kept behind letters when nothing changes any more."""
        row = []
        for entry in range(self.more * self.width):
            chosen = entry // self.width
            row.append((None, left - chosen) if chosen & left == chosen else None)
        return row
