"""The block of a program while its lines are read one after the other."""

from textloops.programs import blocks_within
from textloops.wordings import read_statement


class Draft:
    """The statements of the lines taken so far, and where the next line can go on."""

    def __init__(self):
        self.block = []
        self.begun = []
        self.coming = self.block
        self.may_pass = True

    def take(self, line):
        """Takes the next line; returns whether it can stand here."""
        words = line.lstrip(" ")
        indent = len(line) - len(words)
        if self.coming is not None:
            return indent == 2 * len(self.begun) and self.begin_block(words)
        if indent % 2 == 1 or indent // 2 >= len(self.begun):
            return False
        del self.begun[indent // 2 + 1:]
        return self.go_on(words)

    def begin_block(self, words):
        """Takes the first line of the coming block."""
        self.begun.append(self.coming)
        self.coming = None
        if words == "pass":
            return self.may_pass
        return self.add_statement(words)

    def go_on(self, words):
        """Takes a line that goes on in the last one of the blocks begun."""
        block = self.begun[-1]
        # Only a `pass` leaves a block empty that has been begun.
        if not block:
            return False
        if words == "else:":
            return self.begin_else(block[-1])
        return self.add_statement(words)

    def begin_else(self, statement):
        """Takes the line `else:` behind the statement."""
        if statement[0] != "if" or statement[3]:
            return False
        self.coming = statement[3]
        self.may_pass = False
        return True

    def add_statement(self, words):
        """Takes the first line of a statement."""
        statement = read_statement(words)
        if statement is None:
            return False
        self.begun[-1].append(statement)
        within = blocks_within(statement)
        if within:
            self.coming = within[0]
            self.may_pass = True
        return True
