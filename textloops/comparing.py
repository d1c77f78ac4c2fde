"""Two readers side by side, and readers with other answers."""

from textloops.answers import AnswerBook
from textloops.errors import DifferentReaders
from textloops.exploring import side_by_side
from textloops.freezing import frozen
from textloops.paths import placed_text, way_back
from textloops.readers import Reader


def check_alike(one, two):
    if one.alphabet != two.alphabet or one.names != two.names:
        raise DifferentReaders()


def parting(one, two):
    """Returns the least placed text for which the answers of the readers differ, or None."""
    check_alike(one, two)
    pairs = [(0, 0)]
    origins = [None]
    joins = list(range(one.size + two.size))
    is_joined(joins, 0, one.size)
    at = 0
    while at < len(pairs):
        first, second = pairs[at]
        if one.answers[first] != two.answers[second]:
            return placed_text(one, way_back(origins, at))
        for entry, target in enumerate(one.moves[first]):
            # A pair that follows from pairs met before can part no sooner than one of these does.
            if target is not None and not is_joined(joins, target, one.size + two.moves[second][entry]):
                pairs.append((target, two.moves[second][entry]))
                origins.append((at, entry))
        at += 1
    return None


def is_joined(joins, one, two):
    """Tells whether the numbers belong together by now, and joins them for the next time."""
    first = root(joins, one)
    second = root(joins, two)
    joins[first] = second
    return first == second


def root(joins, number):
    """Returns the number that stands for all those that the given one belongs together with."""
    while joins[number] != number:
        joins[number] = joins[joins[number]]
        number = joins[number]
    return number


def paired(one, two):
    """Returns the reader whose answer is the pair of the answers of both readers."""
    check_alike(one, two)
    pairs, rows = side_by_side(one, two)
    lefts = [one.lefts[state] for state, _ in pairs]
    answers = []
    for left, (state, fellow) in zip(lefts, pairs):
        answers.append((one.answers[state], two.answers[fellow]) if left == 0 else None)
    return Reader(one.alphabet, rows, answers, names=one.names, lefts=lefts)


def relabelled(reader, pairs):
    """Returns the reader in which the new answers of the pairs `(old answer, new answer)` stand for the old ones."""
    book = AnswerBook()
    changes = {}
    for old, new in pairs:
        changes.setdefault(book.number(old), frozen(new))
    answers = []
    for left, answer in zip(reader.lefts, reader.answers):
        if left == 0:
            answer = changes.get(book.number(answer), answer)
        answers.append(answer)
    return Reader(reader.alphabet, reader.moves, answers, names=reader.names, lefts=reader.lefts)
