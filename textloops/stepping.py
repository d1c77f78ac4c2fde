"""Statements that go over a text as a reader does."""

from textloops.making import both_of, negated, one_of


class Stepping:
    """Keeps the state of a reader without names in marks; the mark with the index i is the digit that counts 2 ** i."""

    def __init__(self, reader, names):
        self.reader = reader
        self.marks = [names.fresh() for _ in range((reader.size - 1).bit_length())]

    def within_marks(self, block):
        """Returns the block within the marks, which begin with the reader's first state."""
        for name in self.marks:
            block = (("mark", name, block),)
        return block

    def step(self, place):
        """Returns the block that goes on by the letter at the place."""
        return self.choice([self.step_from(state, place) for state in range(self.reader.size)])

    def step_from(self, state, place):
        """Returns the block that goes on by the letter at the place, if the state is known."""
        alphabet = self.reader.alphabet
        letters_to = {}
        for letter, target in zip(alphabet, self.reader.moves[state]):
            letters_to[target] = letters_to.get(target, "") + letter
        found = []
        for target, letters in letters_to.items():
            changes = self.changes(state, target)
            if changes:
                is_sure = letters == alphabet
                found.extend(changes if is_sure else [("if", ("in", place, letters), changes, ())])
        return tuple(found)

    def changes(self, state, target):
        """Returns the block that leads the marks from a state to another one."""
        found = []
        for index, name in enumerate(self.marks):
            if (state ^ target) >> index & 1:
                found.append(("set" if target >> index & 1 else "clear", name))
        return tuple(found)

    def choice(self, blocks):
        """Returns the block that does the block of the present state; there is one for each state."""
        return self.folded(blocks, lambda name, yes, no: (("if", ("mark", name), yes, no),))

    def test(self, truths):
        """Returns the test, or truth value, of whether the present state has the truth value True."""
        return self.folded(truths, chosen_test)

    def folded(self, row, combined):
        """Returns what is chosen out of the row by the marks; `combined(name, yes, no)` chooses by one mark."""
        for name in self.marks:
            found = []
            for no, yes in zip(row[::2], [*row[1::2], None]):
                # There is nothing for the numbers that are not states.
                found.append(no if yes is None or yes == no else combined(name, yes, no))
            row = found
        return row[0]


def chosen_test(name, yes, no):
    test = ("mark", name)
    return one_of(both_of(test, yes), both_of(negated(test), no))
