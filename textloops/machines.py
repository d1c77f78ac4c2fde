"""Readers while they are worked on: without alphabet and names, and with numbers for answers."""

from textloops.exploring import side_by_side
from textloops.least import least_form
from textloops.readers import Reader


class Machine:
    """A reader over `width` letters with `count` names, in least form.

    `only` is the answer if all answers are the same one, otherwise None.
    """

    def __init__(self, width, count, moves, answers, lefts):
        self.width = width
        self.count = count
        self.moves = moves
        self.answers = answers
        self.lefts = lefts
        self.only = None
        if len(moves) == 1 << count:
            ends = [answer for answer, left in zip(answers, lefts) if left == 0]
            self.only = ends[0]


def least_machine(width, count, moves, answers, lefts):
    """Returns the machine of a description that need not be in least form."""
    moves, answers, lefts = least_form(width, moves, answers, lefts)
    return Machine(width, count, moves, answers, lefts)


def constant_machine(width, count, answer):
    """Returns the machine that always has this answer."""
    everything = (1 << count) - 1
    moves = []
    for met in range(everything + 1):
        row = []
        for chosen in range(everything + 1):
            row.extend([met | chosen if met & chosen == 0 else None for _ in range(width)])
        moves.append(row)
    lefts = [everything - met for met in range(everything + 1)]
    return least_machine(width, count, moves, [answer if left == 0 else None for left in lefts], lefts)


def mapped(machine, change):
    """Returns the machine with the answers `change(answer)`."""
    changes = {}
    for answer, left in zip(machine.answers, machine.lefts):
        if left == 0 and answer not in changes:
            changes[answer] = change(answer)
    answers = [changes[answer] if left == 0 else None for answer, left in zip(machine.answers, machine.lefts)]
    if len(set(list(changes.values()))) == len(changes):
        return Machine(machine.width, machine.count, machine.moves, answers, machine.lefts)
    return least_machine(machine.width, machine.count, machine.moves, answers, machine.lefts)


def joined(one, two, answer_of):
    """Returns the machine with the answers `answer_of(answer of one, answer of two)`."""
    if one.only is not None:
        return mapped(two, lambda answer: answer_of(one.only, answer))
    if two.only is not None:
        return mapped(one, lambda answer: answer_of(answer, two.only))
    pairs, rows = side_by_side(one, two)
    lefts = [one.lefts[first] for first, _ in pairs]
    answers = []
    for left, (first, second) in zip(lefts, pairs):
        answers.append(answer_of(one.answers[first], two.answers[second]) if left == 0 else None)
    return least_machine(one.width, one.count, rows, answers, lefts)


def lifted(machine):
    """Returns the machine with one more name, behind the others; the answers do not hang on it."""
    width = machine.width
    loop = 1 << machine.count
    # State 2 * s is for the state s before the place of the new name, state 2 * s + 1 for s behind it.
    moves = []
    lefts = []
    answers = []
    for row, left, answer in zip(machine.moves, machine.lefts, machine.answers):
        behind = [None if target is None else 2 * target + 1 for target in row]
        moves.append([None if target is None else 2 * target for target in row] + behind)
        moves.append(behind + [None for _ in range(loop * width)])
        lefts.extend([left + loop, left])
        answers.extend([None, answer])
    return least_machine(width, machine.count + 1, moves, answers, lefts)


def reordered(machine, order):
    """Returns the machine with its names in another order; `order` has the new index of each name."""
    if order == list(range(machine.count)):
        return machine
    sets = [0]
    for index in order:
        sets.extend([chosen + (1 << index) for chosen in sets])
    old_sets = [sets.index(chosen) for chosen in range(len(sets))]
    moves = []
    for row in machine.moves:
        changed = []
        for old in old_sets:
            changed.extend(row[old * machine.width:(old + 1) * machine.width])
        moves.append(changed)
    lefts = [sets[left] for left in machine.lefts]
    return least_machine(machine.width, machine.count, moves, machine.answers, lefts)


def are_equal(one, two):
    """Tells whether the machines, which read the same, give the same answers."""
    return one.moves == two.moves and one.answers == two.answers


def plain_machine(reader):
    """Returns the machine of a reader."""
    return Machine(len(reader.alphabet), len(reader.names), reader.moves, reader.answers, reader.lefts)


def limited(machine, within, answer):
    """Returns the machine that has this answer instead for texts that are not let by."""
    if within is None:
        return machine
    limit = plain_machine(within)
    for _ in range(machine.count):
        limit = lifted(limit)
    return joined(machine, limit, lambda own, is_let_by: own if is_let_by else answer)


def machine_reader(machine, alphabet, names):
    """Returns the reader of a machine."""
    return Reader(alphabet, machine.moves, machine.answers, names=names, lefts=machine.lefts)
