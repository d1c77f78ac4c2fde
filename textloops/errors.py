"""All errors of the package."""

from textloops.freezing import frozen


class LoopError(ValueError):
    """The base of all errors of the package."""


class BadAlphabet(LoopError):
    """The string is not an alphabet."""

    def __init__(self, alphabet):
        self.alphabet = alphabet


class BadText(LoopError):
    """The text has, at the index, a character that the alphabet lacks."""

    def __init__(self, text, index):
        self.text = text
        self.index = index


class BadName(LoopError):
    """The string is not a name."""

    def __init__(self, name):
        self.name = name


class DoubleName(LoopError):
    """The name is listed or used twice."""

    def __init__(self, name):
        self.name = name


class UnknownName(LoopError):
    """Nothing that could be meant has the name."""

    def __init__(self, name):
        self.name = name


class BadLetters(LoopError):
    """The string is not one of different letters of the alphabet in ascending order."""

    def __init__(self, letters):
        self.letters = letters


class BadPlaces(LoopError):
    """These are not places of the text, one for each name of the reader."""

    def __init__(self, places):
        self.places = frozen(places)


class BadReader(LoopError):
    """The state is wrong in the description of a reader; -1 stands for the whole description."""

    def __init__(self, state):
        self.state = state


class DifferentReaders(LoopError):
    """The readers have different alphabets or different names."""


class DifferentAlphabets(LoopError):
    """Alphabets differ that have to be the same."""


class BadStatement(LoopError):
    """The statement at the spot has none of the forms."""

    def __init__(self, spot):
        self.spot = spot


class BadCopy(LoopError):
    """The letter may be copied, but cannot be printed."""

    def __init__(self, letter):
        self.letter = letter


class BadLine(LoopError):
    """The line, counted from 1, cannot stand where it stands."""

    def __init__(self, line):
        self.line = line


class UnknownSpot(LoopError):
    """The program has no such spot."""

    def __init__(self, spot):
        self.spot = spot


class WrongWatcher(LoopError):
    """The reader is not a watcher of the program."""


class WrongLimit(LoopError):
    """The reader is not a limit for the program."""


class Unbounded(LoopError):
    """The count grows without end; the rounds show it."""

    def __init__(self, rounds):
        self.rounds = frozen(rounds)


class MissingLetter(LoopError):
    """No pair has the letter."""

    def __init__(self, letter):
        self.letter = letter


class MissingAnswer(LoopError):
    """No pair has the answer."""

    def __init__(self, answer):
        self.answer = frozen(answer)


class NotAnIf(LoopError):
    """The statement at the spot is not an `if`."""

    def __init__(self, spot):
        self.spot = spot


class NoNeighbour(LoopError):
    """The statement at the spot is the last one of its block."""

    def __init__(self, spot):
        self.spot = spot


class NameInUse(LoopError):
    """The name is that of an entry of another kind."""

    def __init__(self, name):
        self.name = name


class Missing(LoopError):
    """The wish names what the desk does not have."""

    def __init__(self, wish, name):
        self.wish = wish
        self.name = name


class UnfitRow(LoopError):
    """The alphabets of the wish's row do not fit together."""

    def __init__(self, wish):
        self.wish = wish


class Broken(LoopError):
    """The wish does not hold, as the text shows."""

    def __init__(self, wish, text):
        self.wish = wish
        self.text = text
