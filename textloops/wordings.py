"""Statements and tests as they are written, each in one line."""

from textloops.checks import RESERVED, is_word

# The words of tests of two places, with the first words of these tests.
PLACE_TESTS = {"before": "before", "at": "same"}
PLACE_WORDS = {"before": "before", "same": "at"}


def written_test(test):
    """Returns the test as it is written."""
    parts = []
    waiting = [test]
    while waiting:
        part = waiting.pop()
        if isinstance(part, str):
            parts.append(part)
        elif part[0] == "not":
            waiting.extend([part[1], "not "])
        elif part[0] in ("and", "or"):
            waiting.extend([")", part[2], f" {part[0]} ", part[1], "("])
        elif part[0] == "mark":
            parts.append(part[1])
        elif part[0] == "in":
            parts.append(f"{part[1]} in {part[2]}")
        else:
            parts.append(f"{part[1]} {PLACE_WORDS[part[0]]} {part[2]}")
    return "".join(parts)


def written_statement(statement):
    """Returns the first line of a statement, without indentation."""
    if statement[0] == "for":
        return f"for {statement[1]} {statement[2]}:"
    if statement[0] == "mark":
        return f"mark {statement[1]}:"
    if statement[0] == "if":
        return f"if {written_test(statement[1])}:"
    return f"{statement[0]} {statement[1]}"


def read_alphabets(line):
    """Returns the two alphabets of a program's first line, or None if it is another line."""
    words = line.split(" ")
    if len(words) != 4 or words[0] != "reads" or words[2] != "prints":
        return None
    return (words[1], words[3]) if is_word(words[1]) and is_word(words[3]) else None


def read_statement(line):
    """Returns the statement, with empty blocks, that the line without its indentation begins, or None."""
    words = line.split(" ")
    if words[0] == "if":
        return read_if(line)
    if len(words) == 3 and words[0] == "for" and is_word(words[1]) and words[2] in ("up:", "down:"):
        return ["for", words[1], words[2][:-1], []]
    if len(words) != 2:
        return None
    if words[0] == "mark" and words[1].endswith(":") and is_word(words[1][:-1]):
        return ["mark", words[1][:-1], []]
    if words[0] in ("set", "clear", "print", "copy") and is_word(words[1]):
        return words
    return None


def read_if(line):
    """Returns the `if`, with empty blocks, that the line begins, or None."""
    if not line.startswith("if ") or not line.endswith(":"):
        return None
    test = read_test(line[3:-1])
    return None if test is None else ["if", test, [], []]


def read_test(text):
    """Returns the test that is written so, or None."""
    signs = with_simple_tests(split_signs(text))
    kept = []
    for sign in signs:
        kept.append(sign)
        closed = closed_test(kept)
        while closed is not None:
            size = 2 if closed[0] == "not" else 5
            del kept[-size:]
            kept.append(closed)
            closed = closed_test(kept)
    return kept[0] if len(kept) == 1 and isinstance(kept[0], tuple) else None


def closed_test(kept):
    """Returns the test that the last of these tests and signs form together, or None."""
    if len(kept) >= 2 and kept[-2] == "not" and isinstance(kept[-1], tuple):
        return ("not", kept[-1])
    if len(kept) < 5 or kept[-1] != ")" or kept[-5] != "(" or kept[-3] not in ("and", "or"):
        return None
    if isinstance(kept[-4], tuple) and isinstance(kept[-2], tuple):
        return (kept[-3], kept[-4], kept[-2])
    return None


def split_signs(text):
    """Returns the words and parentheses of a written test in order; one that is empty if a space or word is wrong."""
    signs = []
    for piece in text.split(" "):
        core = piece.lstrip("(").rstrip(")")
        if not is_word(core):
            return [""]
        before = len(piece) - len(piece.lstrip("("))
        signs.extend(["(" for _ in range(before)])
        signs.append(core)
        signs.extend([")" for _ in range(len(piece) - before - len(core))])
    return signs


def with_simple_tests(signs):
    """Returns the signs, with a tuple for each simple test among them."""
    found = []
    at = 0
    while at < len(signs):
        test = simple_test(signs[at:at + 3])
        if test is None:
            found.append(signs[at])
            at += 1
        else:
            found.append(test)
            at += 1 if test[0] == "mark" else 3
    return found


def simple_test(signs):
    """Returns the simple test that these signs, three if there are so many, begin with, or None."""
    if not is_test_name(signs[0]):
        return None
    if len(signs) == 3 and signs[1] == "in" and is_word(signs[2]):
        return ("in", signs[0], signs[2])
    if len(signs) == 3 and signs[1] in PLACE_TESTS and is_test_name(signs[2]):
        return (PLACE_TESTS[signs[1]], signs[0], signs[2])
    return ("mark", signs[0])


def is_test_name(sign):
    return is_word(sign) and sign not in RESERVED
