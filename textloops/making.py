"""Parts for making programs."""

from textloops.conditions import folded, simple_tests
from textloops.outlines import Outline
from textloops.programs import blocks_within


class FreshNames:
    """Gives names that are not taken yet."""

    def __init__(self, taken):
        self.taken = {name: True for name in taken}
        self.given = 0

    def fresh(self):
        """Returns a new name."""
        name = ""
        while name == "" or name in self.taken:
            self.given += 1
            name = f"n{self.given}"
        return name


def names_of(statements):
    """Returns the names of the loops and marks among the statements."""
    return [statement[1] for statement in statements if statement[0] in ("for", "mark")]


def changed_test(test, change):
    """Returns the test with `change(part)` for each simple test; this is a test, or the truth value that it has.

    If the whole truth value is known, this is what is returned.
    """
    return folded(test, change, combined_test)


def combined_test(word, tests):
    """Returns the test with this word and these tests in it, some of which may be truth values."""
    if word == "not":
        return negated(tests[0])
    return both_of(*tests) if word == "and" else one_of(*tests)


def is_truth(test):
    return isinstance(test, bool)


def negated(test):
    return not test if is_truth(test) else ("not", test)


def both_of(first, second):
    """Returns a test, or a truth value, that says that both of two such hold."""
    if is_truth(first):
        return second if first else False
    if is_truth(second):
        return first if second else False
    return ("and", first, second)


def one_of(first, second):
    """Returns a test, or a truth value, that says that at least one of two such holds."""
    if is_truth(first):
        return True if first else second
    if is_truth(second):
        return True if second else first
    return ("or", first, second)


def renamed_part(part, new_names):
    """Returns a simple test with new names."""
    if part[0] == "mark":
        return ("mark", new_names[part[1]])
    if part[0] == "in":
        return ("in", new_names[part[1]], part[2])
    return (part[0], new_names[part[1]], new_names[part[2]])


def renamed_test(test, new_names):
    return changed_test(test, lambda part: renamed_part(part, new_names))


def marks_in(test):
    """Returns the names of the marks in a test."""
    return [part[1] for part in simple_tests(test) if part[0] == "mark"]


def tidied(block):
    """Returns the block, a tuple at every level, without marks that are not tested and statements that do nothing."""
    size = -1
    outline = Outline(block)
    while size != len(outline.statements):
        size = len(outline.statements)
        block = without_idle(outline)
        outline = Outline(block)
    return block


def without_idle(outline):
    """Returns the outermost block without what is seen at once to do nothing."""
    tested = {}
    for statement in outline.statements:
        if statement[0] == "if":
            for name in marks_in(statement[1]):
                tested[name] = True
    made = [() for _ in outline.statements]
    for spot in range(len(made) - 1, -1, -1):
        blocks = [joined_block(block, made) for block in outline.blocks[spot]]
        made[spot] = useful_part(outline.statements[spot], blocks, tested)
    return joined_block(outline.block, made)


def joined_block(block, made):
    """Returns the block of what has been made of the statements of a block."""
    return tuple([statement for spot in block for statement in made[spot]])


def useful_part(statement, blocks, tested):
    """Returns, as a block, what is left of the statement when its blocks have become these."""
    if statement[0] in ("mark", "set", "clear") and statement[1] not in tested:
        return blocks[0] if blocks else ()
    if blocks and not any([len(block) > 0 for block in blocks]):
        return ()
    return (with_blocks(statement, blocks),)


def replaced(program, spot, count, block):
    """Returns the program's block with another block in the place of so many statements, from the spot on."""
    outline = Outline(program.block)
    parent, branch, index = outline.homes[spot]
    while parent != -1:
        statement = outline.statements[parent]
        blocks = list(blocks_within(statement))
        blocks[branch] = blocks[branch][:index] + block + blocks[branch][index + count:]
        block, count = (with_blocks(statement, blocks),), 1
        parent, branch, index = outline.homes[parent]
    return program.block[:index] + block + program.block[index + count:]


def with_blocks(statement, blocks):
    """Returns the statement with other blocks in the places of its own ones."""
    return (*statement[:len(statement) - len(blocks)], *blocks)
