"""The tests of `if` statements."""

from textloops.checks import check_letters
from textloops.errors import BadStatement, UnknownName

# How many items a test has, by its first word.
TEST_SIZES = {"in": 3, "before": 3, "same": 3, "mark": 2, "not": 2, "and": 3, "or": 3}


def first_word(item):
    """Returns the first word of a statement or test, or the empty string if it has none."""
    if isinstance(item, tuple) and len(item) > 0 and isinstance(item[0], str):
        return item[0]
    return ""


def tests_within(test):
    """Returns the tests that the test consists of."""
    if test[0] in ("not", "and", "or"):
        return test[1:]
    return ()


def check_test_form(test, spot):
    """Raises BadStatement if the test, or a test within it, has none of the forms."""
    waiting = [test]
    while waiting:
        part = waiting.pop()
        if TEST_SIZES.get(first_word(part), -1) != len(part):
            raise BadStatement(spot)
        waiting.extend(tests_within(part))


def simple_tests(test):
    """Returns the tests without tests within them that the test consists of, from left to right."""
    found = []
    waiting = [test]
    while waiting:
        part = waiting.pop()
        within = tests_within(part)
        if within:
            waiting.extend(within[::-1])
        else:
            found.append(part)
    return found


def check_known(name, names):
    if name not in names:
        raise UnknownName(name)


def check_test_names(test, reads, loops, marks):
    """Raises the first error of names and letters in a test of the right form, from left to right."""
    for part in simple_tests(test):
        if part[0] == "mark":
            check_known(part[1], marks)
        elif part[0] == "in":
            check_known(part[1], loops)
            check_letters(part[2], reads)
        else:
            check_known(part[1], loops)
            check_known(part[2], loops)


def folded(test, simple, combined):
    """Returns `simple(part)` for a simple test, otherwise `combined(word, values)` with the values of those within."""
    values = []
    waiting = [(test, False)]
    while waiting:
        part, is_ready = waiting.pop()
        within = tests_within(part)
        if not within:
            values.append(simple(part))
        elif is_ready:
            own = values[-len(within):]
            del values[-len(within):]
            values.append(combined(part[0], own))
        else:
            waiting.append((part, True))
            waiting.extend([(inner, False) for inner in within[::-1]])
    return values[0]


def chances(test, known):
    """Returns whether the test may hold and whether it may fail.

    `known` gives such a pair for each of its simple tests; for a truth value that is sure it is `(True, False)` or
    `(False, True)`.
    """
    return folded(test, lambda part: known[part], combined_chances)


def combined_chances(word, pairs):
    if word == "not":
        return pairs[0][::-1]
    one, two = pairs
    if word == "and":
        return (one[0] and two[0], one[1] or two[1])
    return (one[0] or two[0], one[1] and two[1])
