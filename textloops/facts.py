"""Machines for tests of letters and places."""

from textloops.conditions import simple_tests
from textloops.exploring import explored
from textloops.machines import least_machine


def place_tests(test):
    """Returns the different simple tests of letters and places that the test consists of."""
    found = []
    for part in simple_tests(test):
        if part[0] != "mark" and part not in found:
            found.append(part)
    return found


def facts_machine(alphabet, names, tests):
    """Returns the machine, with these names, whose answer is the tuple of the truth values of the simple tests."""
    width = len(alphabet)
    everything = (1 << len(names)) - 1
    asked = [asked_test(alphabet, names, test) for test in tests]

    def row_of(key):
        left, truths = key
        row = []
        for chosen in range(everything + 1):
            for letter in range(width):
                row.append(key_behind(asked, left, truths, chosen, letter) if chosen & left == chosen else None)
        return row

    keys, rows = explored((everything, tuple([None for _ in tests])), row_of)
    answers = [truths if left == 0 else None for left, truths in keys]
    return least_machine(width, len(names), rows, answers, [left for left, _ in keys])


def asked_test(alphabet, names, test):
    """Returns the test with sets of names instead of names, and truth values by letter instead of letters."""
    first = 1 << names.index(test[1])
    if test[0] == "in":
        return (test[0], first, tuple([letter in test[2] for letter in alphabet]))
    return (test[0], first, 1 << names.index(test[2]))


def key_behind(asked, left, truths, chosen, letter):
    """Returns the names left and the truth values known, when the chosen names have been placed at the letter."""
    found = []
    for test, truth in zip(asked, truths):
        found.append(truth_behind(test, chosen, letter) if truth is None else truth)
    return (left - chosen, tuple(found))


def truth_behind(test, chosen, letter):
    """Returns what becomes of a test that was open when the chosen names are placed at the letter; None if nothing."""
    word, one, two = test
    if word == "in":
        return two[letter] if chosen & one else None
    if chosen & (one | two) == 0:
        return None
    if word == "same":
        return chosen & one != 0 and chosen & two != 0
    return chosen & two == 0
