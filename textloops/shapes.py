"""Tests of the shapes of places: their letters and their order."""

from textloops.making import both_of, one_of
from textloops.weights import leading_states


def printing_block(alphabet, names, machine):
    """Returns a block that prints the machine's answer, a word that hangs on the shape of the places alone."""
    if machine.only is not None:
        return (("print", machine.only),) if machine.only else ()
    tests = {}
    for (word, order), rows in shapes_by_word(alphabet, machine).items():
        for letters in joined_rows(rows):
            test = shape_test(alphabet, names, order, letters)
            tests[word] = one_of(tests.get(word, False), test)
    return tuple([("if", test, (("print", word),), ()) for word, test in tests.items()])


def shapes_by_word(alphabet, machine):
    """Returns a dict with the shapes for which the answer is a word of one or more letters.

    The keys are pairs of the word and the order: the sets of the names placed one behind the other. The values are
    lists of the rows of the letters at these places.
    """
    loud = {state: True for state in leading_states(machine, lambda word: word != "")}
    found = {}
    waiting = [(0, (), ())]
    while waiting:
        state, order, letters = waiting.pop()
        if machine.lefts[state] == 0:
            found.setdefault((machine.answers[state], order), []).append(letters)
        else:
            for entry in range(machine.width, len(machine.moves[state])):
                target = machine.moves[state][entry]
                if target in loud:
                    letter = alphabet[entry % machine.width]
                    waiting.append((target, (*order, entry // machine.width), (*letters, letter)))
    return found


def joined_rows(rows):
    """Returns fewer rows for the same letters; an item of these stands for each of its letters."""
    for index in range(len(rows[0])):
        groups = {}
        for row in rows:
            groups.setdefault((row[:index], row[index + 1:]), []).append(row[index])
        rows = [(*head, "".join(sorted(items)), *tail) for (head, tail), items in groups.items()]
    return rows


def shape_test(alphabet, names, order, letters):
    """Returns the test, or True, of whether the places have this order and one of the letters each."""
    test = True
    last = None
    for chosen, some in zip(order, letters):
        here = [name for index, name in enumerate(names) if chosen >> index & 1]
        if last is not None:
            test = both_of(test, ("before", last, here[0]))
        last = here[0]
        for name in here[1:]:
            test = both_of(test, ("same", last, name))
        if some != alphabet:
            test = both_of(test, ("in", last, some))
    return test
