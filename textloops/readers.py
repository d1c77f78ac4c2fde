"""Readers: finite machines that read placed texts."""

from textloops.checks import check_alphabet, check_names, letter_indexes
from textloops.errors import BadPlaces, BadReader
from textloops.freezing import frozen
from textloops.least import least_form


class Reader:
    """A reader in least form; two readers are equal if they give the same answer for every placed text."""

    def __init__(self, alphabet, moves, answers, *, names=(), lefts=None):
        check_alphabet(alphabet)
        check_names(names)
        rows = [tuple(row) for row in moves]
        kept = [frozen(answer) for answer in answers]
        numbers = [0 for _ in rows] if lefts is None else list(lefts)
        wrong = first_wrong_state(len(alphabet), len(names), rows, kept, numbers)
        if wrong is not None:
            raise BadReader(wrong)
        self.alphabet = alphabet
        self.names = tuple(names)
        self.moves, self.answers, self.lefts = least_form(len(alphabet), rows, kept, numbers)

    @property
    def size(self):
        """The number of states."""
        return len(self.moves)

    def __call__(self, text, places=()):
        letters = letter_indexes(text, self.alphabet)
        if not are_places(places, len(self.names), len(text)):
            raise BadPlaces(places)
        sets = sets_at(places)
        state = 0
        for index, letter in enumerate(letters):
            state = self.moves[state][sets.get(index, 0) * len(self.alphabet) + letter]
        return self.answers[state]

    def __eq__(self, other):
        return (
            isinstance(other, Reader) and self.alphabet == other.alphabet and self.names == other.names
            and self.moves == other.moves and self.answers == other.answers
        )


def are_places(places, count, length):
    """Tells whether these are so many places of a text of this length."""
    return len(places) == count and all([0 <= place < length for place in places])


def sets_at(places):
    """Returns a dict that leads each of the places to the number of the set of the names placed there."""
    sets = {}
    for index, place in enumerate(places):
        sets[place] = sets.get(place, 0) + (1 << index)
    return sets


def first_wrong_state(width, count, moves, answers, lefts):
    """Returns what BadReader tells of the description of a reader over `width` letters with `count` names, or None."""
    if len(moves) == 0 or len(moves) != len(answers) or len(moves) != len(lefts):
        return -1
    set_count = 1 << count
    if lefts[0] != set_count - 1:
        return 0
    for state, left in enumerate(lefts):
        is_whole = len(moves[state]) == set_count * width and (answers[state] is None) == (left != 0)
        if not is_whole or not are_entries(moves[state], width, left, lefts):
            return state
    return None


def are_entries(row, width, left, lefts):
    """Tells whether each entry of the row leads to a state with the right `left`, or is None where it has to be."""
    for at, entry in enumerate(row):
        chosen = at // width
        if chosen & left != chosen:
            if entry is not None:
                return False
        elif entry is None or not 0 <= entry < len(lefts) or lefts[entry] != left - chosen:
            return False
    return True
