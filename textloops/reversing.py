"""Blocks that do a program's prints in the opposite order."""

from textloops.making import both_of, joined_block, marks_in, renamed_test, with_blocks


class Reversing:
    """Makes the block that comes to the prints of a program in the opposite order.

    In it `("print", spot)` stands for the statement at a spot that prints. The loops around prints keep their names.
    """

    def __init__(self, program, outline, names):
        self.outline = outline
        self.loops = [loops for _, loops, _ in program.spots]
        self.names = names

    def made(self):
        """Returns the block."""
        made = [() for _ in self.outline.statements]
        for spot in range(len(made) - 1, -1, -1):
            blocks = [joined_block(block[::-1], made) for block in self.outline.blocks[spot]]
            made[spot] = self.turned_statement(spot, blocks)
        return joined_block(self.outline.block[::-1], made)

    def turned_statement(self, spot, blocks):
        """Returns a block for the statement, whose blocks have become these."""
        statement = self.outline.statements[spot]
        if statement[0] in ("print", "copy"):
            return (("print", spot),)
        if not any([len(block) > 0 for block in blocks]):
            return ()
        if statement[0] == "for":
            return (("for", statement[1], "down" if statement[2] == "up" else "up", *blocks),)
        if statement[0] == "mark":
            return blocks[0]
        if not marks_in(statement[1]):
            return (with_blocks(statement, blocks),)
        # The marks are not known here: a whole run up to this test tells, in a new mark, whether it holds.
        name = self.names.fresh()
        return (("mark", name, (*self.run_to(spot, name), ("if", ("mark", name), *blocks))),)

    def run_to(self, target, mark):
        """Returns a block that runs without prints, and sets the mark if the test of the target holds at its places."""
        needed = self.needed_statements(target)
        statements = self.outline.statements
        new_names = {}
        for spot in sorted(needed):
            if statements[spot][0] in ("for", "mark"):
                new_names[statements[spot][1]] = self.names.fresh()
        made = [() for _ in statements]
        for spot in sorted(needed, reverse=True):
            blocks = [joined_block(block, made) for block in self.outline.blocks[spot]]
            if spot == target:
                made[spot] = (self.asking(target, mark, new_names),)
            if spot != target or any([len(block) > 0 for block in blocks]):
                made[spot] = (*made[spot], renamed_statement(statements[spot], blocks, new_names))
        return joined_block(self.outline.block, made)

    def asking(self, target, mark, new_names):
        """Returns the statement that sets the mark if the test of the target holds now, and the places are the same."""
        test = renamed_test(self.outline.statements[target][1], new_names)
        for name in self.loops[target]:
            test = both_of(test, ("same", name, new_names[name]))
        return ("if", test, (("set", mark),), ())

    def needed_statements(self, target):
        """Returns a dict of True for the statements that matter for when, and with what marks, the target is begun."""
        statements = self.outline.statements
        needed = {}
        marks = {}
        waiting = [target]
        while waiting:
            spot = waiting.pop()
            while spot != -1 and spot not in needed:
                needed[spot] = True
                for name in tested_marks(statements[spot]):
                    if name not in marks:
                        marks[name] = True
                        waiting.extend(self.changing_statements(name, target))
                spot = self.outline.homes[spot][0]
        return needed

    def changing_statements(self, name, target):
        """Returns the statements that set or clear the mark and may be begun before the target is."""
        found = []
        for spot, statement in enumerate(self.outline.statements):
            if statement[0] in ("set", "clear") and statement[1] == name:
                # Behind the target only a further round of a common loop leads to the target again.
                if spot < target or shared_count(self.loops[spot], self.loops[target]) > 0:
                    found.append(spot)
        return found


def tested_marks(statement):
    return marks_in(statement[1]) if statement[0] == "if" else []


def shared_count(one, two):
    """Returns how many loops two statements have in common; these are the first ones around each of them."""
    names = [name for name, other in zip(one, two) if name == other]
    return len(names)


def renamed_statement(statement, blocks, new_names):
    """Returns the statement, which prints nothing, with new names and other blocks."""
    if statement[0] == "if":
        return ("if", renamed_test(statement[1], new_names), *blocks)
    if statement[0] == "for":
        return ("for", new_names[statement[1]], statement[2], *blocks)
    return (statement[0], new_names[statement[1]], *blocks)
