"""Slow and plain runs of programs, and random programs, to compare the package with."""

import itertools

from textloops.programs import Program


class PlainRun:
    """A run that follows the words of the document, one call for each statement.

    `begun` gets a tuple for each statement that is begun: its statement (the very object), the places and the truth
    values by name; `printed` gets the pairs of a letter and its birth.
    """

    def __init__(self, program, text):
        self.program = program
        self.text = text
        self.places = {}
        self.truths = {}
        self.begun = []
        self.printed = []
        self.spot_of = {}

    def whole(self):
        number_statements(self.program.block, "", self.spot_of)
        self.block(self.program.block, "")
        return self

    def block(self, block, path):
        for index, statement in enumerate(block):
            self.statement(statement, f"{path}.{index}")

    def statement(self, statement, path):
        self.begun.append((self.spot_of.get(path), tuple(self.places.values()), tuple(self.truths.values())))
        word = statement[0]
        if word == "for":
            for place in range(len(self.text))[::1 if statement[2] == "up" else -1]:
                self.places[statement[1]] = place
                self.block(statement[3], path + "a")
                del self.places[statement[1]]
        elif word == "mark":
            self.truths[statement[1]] = False
            self.block(statement[2], path + "a")
            del self.truths[statement[1]]
        elif word in ("set", "clear"):
            self.truths[statement[1]] = word == "set"
        elif word == "if":
            if self.holds(statement[1]):
                self.block(statement[2], path + "a")
            else:
                self.block(statement[3], path + "b")
        else:
            letters = statement[1] if word == "print" else self.text[self.places[statement[1]]]
            self.printed.extend((letter, tuple(sorted(self.places.items()))) for letter in letters)

    def holds(self, test):
        word = test[0]
        if word == "in":
            return self.text[self.places[test[1]]] in test[2]
        if word == "before":
            return self.places[test[1]] < self.places[test[2]]
        if word == "same":
            return self.places[test[1]] == self.places[test[2]]
        if word == "mark":
            return self.truths[test[1]]
        if word == "not":
            return not self.holds(test[1])
        if word == "and":
            return self.holds(test[1]) and self.holds(test[2])
        return self.holds(test[1]) or self.holds(test[2])


def number_statements(block, path, spot_of):
    for index, statement in enumerate(block):
        here = f"{path}.{index}"
        spot_of[here] = len(spot_of)
        if statement[0] == "for":
            number_statements(statement[3], here + "a", spot_of)
        elif statement[0] == "mark":
            number_statements(statement[2], here + "a", spot_of)
        elif statement[0] == "if":
            number_statements(statement[2], here + "a", spot_of)
            number_statements(statement[3], here + "b", spot_of)


def statements_of(block):
    """All statements in the order of the spots."""
    found = []
    for statement in block:
        found.append(statement)
        for part in statement[1:]:
            if isinstance(part, tuple) and statement[0] in ("for", "mark"):
                found.extend(statements_of(part))
        if statement[0] == "if":
            found.extend(statements_of(statement[2]) + statements_of(statement[3]))
    return found


def plain_print(program, text):
    return "".join(letter for letter, _ in PlainRun(program, text).whole().printed)


def plain_births(program, text):
    return tuple(PlainRun(program, text).whole().printed)


def plain_visits(program, text):
    return tuple(PlainRun(program, text).whole().begun)


def plain_effect(program, watcher, spot, text, places):
    """The effect of a statement, begun in each standing by itself."""
    statement = statements_of(program.block)[spot]
    _, loops, marks = program.spots[spot]
    found = []
    for truths in itertools.product([False, True], repeat=len(marks)):
        for state in range(watcher.size):
            run = PlainRun(program, text)
            run.places = dict(zip(loops, places))
            run.truths = dict(zip(marks, truths))
            run.statement(statement, "")
            for letter, _ in run.printed:
                state = watcher.moves[state][watcher.alphabet.index(letter)]
            number = 0
            for mark in marks:
                number = 2 * number + run.truths[mark]
            found.append(number * watcher.size + state)
    return tuple(found)


class Maker:
    """Makes random programs."""

    def __init__(self, rng, reads, prints, loops, marks, depth=2):
        self.rng = rng
        self.reads = reads
        self.prints = prints
        self.loop_names = rng.sample(["x", "y", "x1", "xa", "i"], loops)
        self.mark_names = rng.sample(["m", "n", "m0", "mm", "k"], marks)
        self.depth = depth

    def program(self, size):
        self.left = size
        block = self.block((), (), size)
        return Program(self.reads, self.prints, block)

    def block(self, loops, marks, most):
        found = []
        for _ in range(self.rng.randint(0 if loops or marks else 1, max(1, most))):
            if self.left <= 0:
                break
            found.append(self.statement(loops, marks, most))
        return found

    def statement(self, loops, marks, most):
        self.left -= 1
        kinds = ["print"]
        if self.loop_names and len(loops) < self.depth:
            kinds += ["for"] * 4
        if self.mark_names:
            kinds += ["mark"] * 2
        if marks:
            kinds += ["set", "set", "clear"]
        if marks or loops:
            kinds += ["if"] * 3
        if loops and set(self.reads) <= set(self.prints):
            kinds += ["copy"]
        kind = self.rng.choice(kinds)
        if kind == "for":
            name = self.loop_names.pop()
            way = self.rng.choice(["up", "down"])
            return ("for", name, way, self.block((*loops, name), marks, most))
        if kind == "mark":
            name = self.mark_names.pop()
            return ("mark", name, self.block(loops, (*marks, name), most))
        if kind in ("set", "clear"):
            return (kind, self.rng.choice(marks))
        if kind == "copy":
            return (kind, self.rng.choice(loops))
        if kind == "print":
            return (kind, "".join(self.rng.choice(self.prints) for _ in range(self.rng.choice([1, 1, 2]))))
        most = max(1, most // 2)
        return ("if", self.test(loops, marks, 2), self.block(loops, marks, most), self.block(loops, marks, most))

    def test(self, loops, marks, deep):
        rng = self.rng
        if deep and rng.random() < 0.4:
            word = rng.choice(["not", "and", "or"])
            if word == "not":
                return (word, self.test(loops, marks, deep - 1))
            return (word, self.test(loops, marks, deep - 1), self.test(loops, marks, deep - 1))
        kinds = (["in", "before", "same"] if loops else []) + (["mark", "mark"] if marks else [])
        kind = rng.choice(kinds)
        if kind == "mark":
            return (kind, rng.choice(marks))
        if kind == "in":
            some = [letter for letter in self.reads if rng.random() < 0.5] or [rng.choice(self.reads)]
            return (kind, rng.choice(loops), "".join(some))
        return (kind, rng.choice(loops), rng.choice(loops))
