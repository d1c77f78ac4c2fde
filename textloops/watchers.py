"""Watchers: readers without names for simple questions about a text."""

from textloops.checks import check_alphabet, check_letters, check_text
from textloops.readers import Reader


def exactly(alphabet, word):
    """Returns the watcher that tells whether the text is the word."""
    check_alphabet(alphabet)
    check_text(word, alphabet)
    lost = len(word) + 1
    rows = []
    for index, wanted in enumerate(word):
        rows.append([index + 1 if letter == wanted else lost for letter in alphabet])
    rows.extend([[lost for _ in alphabet], [lost for _ in alphabet]])
    return Reader(alphabet, rows, [state == len(word) for state in range(len(rows))])


def containing(alphabet, word):
    """Returns the watcher that tells whether the word stands in the text in one piece."""
    check_alphabet(alphabet)
    check_text(word, alphabet)
    rows = []
    # The state for what has been read without its first letter: from it all goes on where a letter does not fit.
    fallback = 0
    for index, wanted in enumerate(word):
        row = list(rows[fallback]) if index > 0 else [0 for _ in alphabet]
        fallback = row[alphabet.find(wanted)]
        row[alphabet.find(wanted)] = index + 1
        rows.append(row)
    return ending_well(alphabet, rows)


def scattered(alphabet, word):
    """Returns the watcher that tells whether the letters of the word stand in the text in this order."""
    check_alphabet(alphabet)
    check_text(word, alphabet)
    rows = []
    for index, wanted in enumerate(word):
        rows.append([index + 1 if letter == wanted else index for letter in alphabet])
    return ending_well(alphabet, rows)


def ending_well(alphabet, rows):
    """Returns the watcher with these rows and one more state, the only one with the answer True, which is kept."""
    last = len(rows)
    return Reader(alphabet, rows + [[last for _ in alphabet]], [state == last for state in range(last + 1)])


def counting(alphabet, letters, modulus):
    """Returns the watcher that tells the number of places with one of the letters, modulo the modulus."""
    check_alphabet(alphabet)
    check_letters(letters, alphabet)
    rows = []
    for count in range(modulus):
        rows.append([(count + 1) % modulus if letter in letters else count for letter in alphabet])
    return Reader(alphabet, rows, list(range(modulus)))


def ending(alphabet):
    """Returns the watcher that tells the last letter of the text."""
    check_alphabet(alphabet)
    row = list(range(1, len(alphabet) + 1))
    return Reader(alphabet, [row for _ in range(len(alphabet) + 1)], ["", *alphabet])


def never_behind(alphabet, first, second):
    """Returns the watcher that tells whether no letter `second` stands behind a letter `first`."""
    check_alphabet(alphabet)
    check_text(first, alphabet)
    check_text(second, alphabet)
    rows = [
        [1 if letter == first else 0 for letter in alphabet],
        [2 if letter == second else 1 for letter in alphabet],
        [2 for _ in alphabet],
    ]
    return Reader(alphabet, rows, [True, True, False])
