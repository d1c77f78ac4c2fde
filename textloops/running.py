"""Runs of a program on one text."""

from textloops.checks import check_text
from textloops.coding import Coder

PRINTING = ("print", "copy")
ALL_KINDS = ("for", "mark", "set", "clear", "if", "print", "copy")


class Walk:
    """A run that stops at each statement of certain kinds; places and truths are kept by loop and by mark."""

    def __init__(self, program, text, kinds):
        check_text(text, program.reads)
        coder = Coder(program, kinds)
        self.text = text
        self.statements = coder.outline.statements
        self.loop_of = coder.loop_of
        self.mark_of = coder.mark_of
        self.orders = coder.made()
        self.places = [0 for _ in self.loop_of]
        self.truths = [False for _ in self.mark_of]
        self.at = 0

    def next_stop(self):
        """Goes on to the next stop; returns the spot of its statement, or None at the end."""
        while True:
            word, one, two, yes, no = self.orders[self.at]
            if word == "end":
                return None
            if word == "stop":
                self.at += 1
                return one
            if word == "go":
                self.at = yes
            elif word == "put":
                self.truths[one] = two
                self.at += 1
            elif word == "first":
                self.places[one] = -1 if two else len(self.text)
                self.at += 1
            elif word == "next":
                self.places[one] += two
                self.at = yes if 0 <= self.places[one] < len(self.text) else no
            else:
                self.at = yes if self.holds(word, one, two) else no

    def holds(self, word, one, two):
        """Tells whether a simple test holds at this moment."""
        if word == "mark":
            return self.truths[one]
        if word == "in":
            return self.text[self.places[one]] in two
        if word == "before":
            return self.places[one] < self.places[two]
        return self.places[one] == self.places[two]

    def printed(self, spot):
        """Returns what the statement at the spot prints at this moment."""
        statement = self.statements[spot]
        return statement[1] if statement[0] == "print" else self.text[self.places[self.loop_of[statement[1]]]]

    def birth(self, names):
        return tuple([(name, self.places[self.loop_of[name]]) for name in names])


def run(program, text):
    """Returns what the program prints on the text."""
    walk = Walk(program, text, PRINTING)
    words = []
    spot = walk.next_stop()
    while spot is not None:
        words.append(walk.printed(spot))
        spot = walk.next_stop()
    return "".join(words)


def births(program, text):
    """Returns the pairs `(letter, birth)` of all printed letters, in the order of printing."""
    walk = Walk(program, text, PRINTING)
    names = [sorted(loops) for _, loops, _ in program.spots]
    found = []
    spot = walk.next_stop()
    while spot is not None:
        birth = walk.birth(names[spot])
        found.extend([(letter, birth) for letter in walk.printed(spot)])
        spot = walk.next_stop()
    return tuple(found)


def visits(program, text):
    """Returns a triple `(spot, places, truths)` for each time that a statement is begun, in the order of the run."""
    walk = Walk(program, text, ALL_KINDS)
    found = []
    spot = walk.next_stop()
    while spot is not None:
        _, loops, marks = program.spots[spot]
        places = tuple([walk.places[walk.loop_of[name]] for name in loops])
        truths = tuple([walk.truths[walk.mark_of[name]] for name in marks])
        found.append((spot, places, truths))
        spot = walk.next_stop()
    return tuple(found)
