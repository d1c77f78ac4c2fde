"""Programs that print in the opposite order."""

from textloops.making import FreshNames, joined_block, names_of, with_blocks
from textloops.outlines import Outline
from textloops.programs import Program
from textloops.reversing import Reversing


def turned(program):
    """Returns a program with the births of the program in the opposite order."""
    outline = Outline(program.block)
    names = FreshNames(names_of(outline.statements))
    skeleton = Outline(Reversing(program, outline, names).made())
    made = [() for _ in skeleton.statements]
    for spot in range(len(made) - 1, -1, -1):
        statement = skeleton.statements[spot]
        if statement[0] == "print":
            made[spot] = (turned_print(outline.statements[statement[1]]),)
        else:
            blocks = [joined_block(block, made) for block in skeleton.blocks[spot]]
            made[spot] = (with_blocks(statement, blocks),)
    return Program(program.reads, program.prints, joined_block(skeleton.block, made))


def turned_print(statement):
    return ("print", statement[1][::-1]) if statement[0] == "print" else statement
