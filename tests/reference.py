"""Slow and plain ways to find what the package finds, to compare it with."""

import itertools


def described_answer(alphabet, moves, answers, names, text, places):
    """The answer of a reader's description, which need not be in least form."""
    state = 0
    for index, letter in enumerate(text):
        chosen = sum(2 ** i for i in range(len(names)) if places[i] == index)
        state = moves[state][chosen * len(alphabet) + alphabet.index(letter)]
    return answers[state]


def texts_of(alphabet, length):
    return ["".join(letters) for letters in itertools.product(alphabet, repeat=length)]


def texts_up_to(alphabet, length):
    return [text for size in range(length + 1) for text in texts_of(alphabet, size)]


def entry_row(alphabet, text, places):
    """The entry indexes by which placed texts of one length are ordered."""
    row = []
    for index, letter in enumerate(text):
        chosen = sum(2 ** i for i, place in enumerate(places) if place == index)
        row.append(chosen * len(alphabet) + alphabet.index(letter))
    return row


def placed_texts(alphabet, count, length):
    """All placed texts with this number of names up to this length, in their order."""
    found = []
    for size in range(length + 1):
        layer = [
            (text, places) for text in texts_of(alphabet, size)
            for places in itertools.product(range(size), repeat=count)
        ]
        found.extend(sorted(layer, key=lambda pair: entry_row(alphabet, *pair)))
    return found


def random_description(random, alphabet, names, answers, per_left):
    """A random description: a dict of the arguments of Reader."""
    everything = 2 ** len(names) - 1
    lefts = [everything]
    for left in range(everything + 1):
        lefts.extend([left] * random.randint(1, per_left))
    shuffled = lefts[1:]
    random.shuffle(shuffled)
    lefts = [everything] + shuffled
    moves = []
    for left in lefts:
        row = []
        for chosen in range(everything + 1):
            for _ in alphabet:
                if chosen & left != chosen:
                    row.append(None)
                else:
                    row.append(random.choice([s for s, other in enumerate(lefts) if other == left - chosen]))
        moves.append(row)
    given = [random.choice(answers) if left == 0 else None for left in lefts]
    return {"alphabet": alphabet, "moves": moves, "answers": given, "names": names, "lefts": lefts}
