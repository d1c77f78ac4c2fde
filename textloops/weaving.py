"""Putting one program behind another one."""

from textloops.freezing import frozen
from textloops.making import (
    FreshNames, both_of, changed_test, joined_block, names_of, one_of, renamed_test, tidied, with_blocks,
)
from textloops.outlines import Outline
from textloops.reversing import Reversing, shared_count


class Weaving:
    """Makes the block that does what the second program does on what the first one prints.

    A loop of the second program becomes a copy of the first one, in which the loop's block stands in the place of each
    printed letter. So a place of the second program is a printed letter: a triple of the spot that prints it, its
    index in the word, and the names that the loops around the spot have in the copy.
    """

    def __init__(self, first, second):
        self.first = first
        self.printing = Outline(first.block)
        self.second = Outline(second.block)
        taken = names_of(self.printing.statements)
        turned = Reversing(first, self.printing, FreshNames(taken)).made()
        self.copied = {"up": Outline(tidied(with_print_spots(self.printing))), "down": Outline(tidied(turned))}
        self.names = FreshNames([])
        self.waiting = []

    def made(self):
        """Returns the block."""
        block = []
        self.wait_second(self.second.block, {}, {}, block)
        while self.waiting:
            is_first, spot, told, out = self.waiting.pop()
            if is_first:
                self.weave_first(spot, told, out)
            else:
                self.weave_second(spot, told, out)
        return tidied(frozen(block))

    def wait_second(self, block, places, marks, out):
        """Lets a block of the second program wait; `places` and `marks` tell what its names stand for."""
        self.waiting.extend([(False, spot, (places, marks), out) for spot in block[::-1]])

    def wait_first(self, block, told, out):
        self.waiting.extend([(True, spot, told, out) for spot in block[::-1]])

    def weave_second(self, spot, told, out):
        """Puts what becomes of a statement of the second program into the block `out`."""
        places, marks = told
        statement = self.second.statements[spot]
        blocks = self.second.blocks[spot]
        if statement[0] == "for":
            outline = self.copied[statement[2]]
            new_names = {name: self.names.fresh() for name in names_of(outline.statements)}
            self.wait_first(outline.block, (spot, new_names, places, marks), out)
        elif statement[0] == "mark":
            inner = []
            name = self.names.fresh()
            out.append(("mark", name, inner))
            self.wait_second(blocks[0], places, {**marks, statement[1]: name}, inner)
        elif statement[0] == "if":
            test = changed_test(statement[1], lambda part: self.test_of(part, places, marks))
            self.weave_choice(test, blocks, told, out)
        elif statement[0] == "print":
            out.append(statement)
        elif statement[0] == "copy":
            out.append(self.printed_letter(places[statement[1]]))
        else:
            out.append((statement[0], marks[statement[1]]))

    def weave_choice(self, test, blocks, told, out):
        """Puts what becomes of an `if` into the block `out`; the test may be a truth value."""
        places, marks = told
        if isinstance(test, bool):
            self.wait_second(blocks[0] if test else blocks[1], places, marks, out)
            return
        inner = [[], []]
        out.append(("if", test, *inner))
        for block, target in zip(blocks, inner):
            self.wait_second(block, places, marks, target)

    def weave_first(self, at, told, out):
        """Puts what becomes of a statement of the copy of the first program into the block `out`."""
        loop, new_names, _, _ = told
        outline = self.copied[self.second.statements[loop][2]]
        statement = outline.statements[at]
        if statement[0] == "print":
            self.weave_print(statement[1], told, out)
            return
        inner = [[] for _ in outline.blocks[at]]
        if statement[0] == "if":
            out.append(("if", renamed_test(statement[1], new_names), *inner))
        elif statement[0] == "for":
            out.append(("for", new_names[statement[1]], statement[2], *inner))
        else:
            out.append((statement[0], new_names[statement[1]], *inner))
        for block, target in zip(outline.blocks[at], inner):
            self.wait_first(block, told, target)

    def weave_print(self, spot, told, out):
        """Puts the loop's block into the block `out`, once for each letter that the first program prints there."""
        loop, new_names, places, marks = told
        _, name, way, _ = self.second.statements[loop]
        around = tuple([new_names[own] for own in self.first.spots[spot][1]])
        statement = self.printing.statements[spot]
        count = len(statement[1]) if statement[0] == "print" else 1
        # What is put in line last is done first.
        indexes = list(range(count))
        for index in indexes[::-1] if way == "up" else indexes:
            place = (spot, index, around)
            self.wait_second(self.second.blocks[loop][0], {**places, name: place}, marks, out)

    def printed_letter(self, place):
        """Returns the statement that prints the letter at a place of the second program."""
        spot, index, around = place
        word, item = self.printing.statements[spot]
        if word == "print":
            return ("print", item[index])
        return ("copy", around[self.first.spots[spot][1].index(item)])

    def test_of(self, part, places, marks):
        """Returns what becomes of a simple test of the second program, a test or a truth value."""
        if part[0] == "mark":
            return ("mark", marks[part[1]])
        if part[0] == "in":
            return self.letter_test(places[part[1]], part[2])
        one, two = places[part[1]], places[part[2]]
        return self.same_test(one, two) if part[0] == "same" else self.before_test(one, two)

    def letter_test(self, place, letters):
        word, item = self.printed_letter(place)
        if word == "print":
            return item in letters
        kept = "".join([letter for letter in self.first.reads if letter in letters])
        if kept in ("", self.first.reads):
            return kept != ""
        return ("in", item, kept)

    def same_test(self, one, two):
        if one[:2] != two[:2]:
            return False
        test = True
        for name, other in zip(one[2], two[2]):
            if name != other:
                test = both_of(test, ("same", name, other))
        return test

    def before_test(self, one, two):
        """Returns the test of whether the first program prints the one letter before the other one."""
        loops, others = [self.first.spots[place[0]][1] for place in (one, two)]
        test = one[:2] < two[:2]
        for index in range(shared_count(loops, others) - 1, -1, -1):
            name, other = one[2][index], two[2][index]
            if name != other:
                is_before = ("before", name, other) if self.goes_up(loops[index]) else ("before", other, name)
                test = one_of(is_before, both_of(("same", name, other), test))
        return test

    def goes_up(self, name):
        """Tells whether the loop of the first program with this name goes up."""
        return any([part[:3] == ("for", name, "up") for part in self.printing.statements])


def with_print_spots(outline):
    """Returns the block in which `("print", spot)` stands for the statements that print."""
    made = [() for _ in outline.statements]
    for spot in range(len(made) - 1, -1, -1):
        statement = outline.statements[spot]
        if statement[0] in ("print", "copy"):
            made[spot] = (("print", spot),)
        else:
            made[spot] = (with_blocks(statement, [joined_block(block, made) for block in outline.blocks[spot]]),)
    return joined_block(outline.block, made)
