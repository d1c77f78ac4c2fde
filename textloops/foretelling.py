"""What a watcher answers to what a program prints."""

from textloops.asking import first_text, with_truths
from textloops.comparing import paired
from textloops.limits import check_limit, check_watcher
from textloops.readers import Reader
from textloops.tables import whole_machine
from textloops.watchers import exactly


class Verdict:
    """Whether all answers are wished ones, with the least texts that show whether they are."""

    def __init__(self, word, keeping, breaking):
        self.word = word
        self.keeping = keeping
        self.breaking = breaking


def foretell(program, watcher):
    """Returns the reader that answers what the watcher answers to what the program prints on the text."""
    check_watcher(program, watcher)
    machine, book = whole_machine(program, watcher, (0,))
    answers = [watcher.answers[book.target(0, effect)] for effect in machine.answers]
    return Reader(program.reads, machine.moves, answers)


def verdict(program, watcher, *, wished, within=None):
    """Returns whether the answers of the watcher to what the program prints are wished ones."""
    check_watcher(program, watcher)
    check_limit(program.reads, within)
    plain = foretell(program, with_truths(watcher, wished))
    keeping = least_text(plain, True, within)
    breaking = least_text(plain, False, within)
    return Verdict(word_of(keeping, breaking, "sure"), keeping, breaking)


def least_text(reader, answer, within):
    """Returns the least text that is let by and has this answer, or None."""
    if within is None:
        found = first_text(reader, [answer])
    else:
        found = first_text(paired(reader, within), [(answer, True)])
    return None if found is None else found[0]


def word_of(keeping, breaking, sure):
    """Returns the word for what keeps to something and what does not."""
    if breaking is None:
        return sure
    return "never" if keeping is None else "open"


def printing(program, word):
    """Returns the reader that tells whether the program prints just the word."""
    return foretell(program, exactly(program.prints, word))
