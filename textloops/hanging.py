"""Whether the runs at a statement hang on letters at other places."""

from textloops.checks import letter_indexes
from textloops.plans import Plan
from textloops.reaches import reach
from textloops.searching import least_found


def hangs(program, spot):
    """Returns the first `(text, places, z, letter)` for which the letter at z changes what `reach` answers, or None."""
    reader = reach(program, spot)
    plans = [Exchange(reader, letter) for letter in range(len(reader.alphabet))]
    text = least_found(reader.alphabet, plans)
    if text is None:
        return None
    letters = letter_indexes(text, reader.alphabet)
    found = []
    for letter, plan in zip(reader.alphabet, plans):
        if plan.leads_to_end(letters):
            found.append((plan.first_places(letters), letter))
    places, letter = min(found)
    return (text, places[:-1], places[-1], letter)


class Exchange(Plan):
    """Looks for a text in which a letter, put at one more place, changes the answer of a reader.

    It keeps a pair of states, for the text as it is and for the text with the letter. Before the one more place the
    pair has one state only. If both are the same behind it, or if another name has this place, nothing changes.
    """

    def __init__(self, reader, letter):
        super().__init__(len(reader.alphabet), len(reader.names) + 1, (0,))
        self.reader = reader
        self.letter = letter

    def row_of(self, key):
        """Returns the row of what is kept behind each letter, first without the one more place, then with it."""
        rows = [self.reader.moves[state] for state in key]
        if len(key) == 1:
            return [None if target is None else (target,) for target in rows[0]] + self.meeting_row(rows[0])
        return [changed_pair(one, two) for one, two in zip(*rows)] + [None for _ in rows[0]]

    def meeting_row(self, row):
        """Returns what is kept behind letters at the one more place."""
        found = [changed_pair(target, row[self.letter]) for target in row[:self.width]]
        return found + [None for _ in row[self.width:]]

    def is_end(self, key):
        if len(key) == 1 or self.reader.lefts[key[0]] != 0:
            return False
        return self.reader.answers[key[0]] != self.reader.answers[key[1]]


def changed_pair(one, two):
    return None if one is None or one == two else (one, two)
