"""Bringing the description of a reader to its least form."""

from textloops.answers import AnswerBook
from textloops.exploring import explored


class Blocks:
    """The numbers from 0 on in blocks, which are split until the numbers of each block step to the same blocks."""

    def __init__(self, labels):
        self.block_of = list(labels)
        self.members = [{} for _ in range(max(labels) + 1)]
        for member, label in enumerate(labels):
            self.members[label][member] = True
        self.waiting = list(range(len(self.members)))
        self.is_waiting = [True for _ in self.members]

    def refine(self, sources):
        """Splits the blocks; `sources` has, for each way to step, the list of those that step to each number."""
        while self.waiting:
            block = self.waiting.pop()
            self.is_waiting[block] = False
            inside = list(self.members[block])
            for column in sources:
                for met, part in self.parts_before(inside, column):
                    if len(part) < len(self.members[met]):
                        self.split(met, part)

    def parts_before(self, inside, column):
        """Returns pairs of a block and the list of its members that step into the given numbers."""
        parts = {}
        for member in inside:
            for source in column[member]:
                parts.setdefault(self.block_of[source], []).append(source)
        return list(parts.items())

    def split(self, block, part):
        """Makes the part of the block a block of its own."""
        fresh = len(self.members)
        for member in part:
            del self.members[block][member]
            self.block_of[member] = fresh
        self.members.append({member: True for member in part})
        self.is_waiting.append(False)
        # Going on from the smaller one of the two is enough, unless the block still waits: then both have to.
        if self.is_waiting[block] or len(part) <= len(self.members[block]):
            self.put_in_line(fresh)
        else:
            self.put_in_line(block)

    def put_in_line(self, block):
        self.is_waiting[block] = True
        self.waiting.append(block)


def least_form(width, moves, answers, lefts):
    """Returns the moves, answers and lefts of the least form; `width` is the number of letters."""
    states = reached(moves)
    class_of = classes(width, moves, answers, lefts, states)
    chosen = {class_of[state]: state for state in states}

    def row_of(number):
        return [None if entry is None else class_of[entry] for entry in moves[chosen[number]]]

    numbers, rows = explored(class_of[0], row_of)
    kept = [chosen[number] for number in numbers]
    return (tuple(rows), tuple([answers[state] for state in kept]), tuple([lefts[state] for state in kept]))


def reached(moves):
    """Returns the states that are reached from state 0."""
    states = [0]
    is_met = [False for _ in moves]
    is_met[0] = True
    at = 0
    while at < len(states):
        for entry in moves[states[at]]:
            if entry is not None and not is_met[entry]:
                is_met[entry] = True
                states.append(entry)
        at += 1
    return states


def classes(width, moves, answers, lefts, states):
    """Returns, for each state, a number that it shares with the states alike; None for states not listed."""
    layers = {}
    for state in states:
        layers.setdefault(lefts[state], []).append(state)
    class_of = [None for _ in moves]
    total = 0
    # A step that places names leads to a smaller number `left`: its classes are known when a layer is begun.
    for left in sorted(layers):
        layer = layers[left]
        labels = layer_labels(left, layer, width, moves, answers, class_of)
        blocks = Blocks(labels)
        blocks.refine(layer_sources(layer, width, moves))
        for state, block in zip(layer, blocks.block_of):
            class_of[state] = total + block
        total += len(blocks.members)
    return class_of


def layer_labels(left, layer, width, moves, answers, class_of):
    """Returns a label for each state of a layer; states whose answers or placing steps differ have different ones."""
    book = AnswerBook()
    labels = []
    for state in layer:
        if left == 0:
            labels.append(book.number(answers[state]))
        else:
            labels.append(tuple([class_of[entry] for entry in moves[state][width:] if entry is not None]))
    numbers = {}
    for label in labels:
        numbers.setdefault(label, len(numbers))
    return [numbers[label] for label in labels]


def layer_sources(layer, width, moves):
    """Returns, for each letter, the lists of the states of the layer that step to each one by it, as layer indexes."""
    index_of = {state: index for index, state in enumerate(layer)}
    sources = []
    for letter in range(width):
        column = [[] for _ in layer]
        for index, state in enumerate(layer):
            column[index_of[moves[state][letter]]].append(index)
        sources.append(column)
    return sources
