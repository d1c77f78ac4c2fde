"""Programs as they are written."""

from textloops.drafts import Draft
from textloops.errors import BadLine
from textloops.programs import Program, blocks_within
from textloops.wordings import read_alphabets, written_statement


def format_program(program):
    """Returns the written program."""
    lines = [f"reads {program.reads} prints {program.prints}"]
    waiting = block_parts("", program.block)
    while waiting:
        indent, part = waiting.pop()
        if isinstance(part, str):
            lines.append(indent + part)
        else:
            lines.append(indent + written_statement(part))
            waiting.extend(inner_parts(indent, part))
    return "\n".join(lines)


def block_parts(indent, block):
    """Returns what a block has to write, the last part first: pairs of the indentation and a statement or a line."""
    return [(indent, part) for part in (block or ("pass",))[::-1]]


def inner_parts(indent, statement):
    """Returns what stands behind the first line of the statement, as `block_parts` does."""
    deeper = indent + "  "
    within = blocks_within(statement)
    parts = []
    if len(within) == 2 and within[1]:
        parts.extend(block_parts(deeper, within[1]))
        parts.append((indent, "else:"))
    if within:
        parts.extend(block_parts(deeper, within[0]))
    return parts


def parse_program(text):
    """Returns the program that is written so; raises BadLine for the first line that cannot stand where it stands."""
    lines = text.split("\n")
    alphabets = read_alphabets(lines[0])
    if alphabets is None:
        raise BadLine(1)
    draft = Draft()
    for number, line in enumerate(lines[1:], start=2):
        if not draft.take(line):
            raise BadLine(number)
    if draft.coming is not None:
        raise BadLine(len(lines) + 1)
    return Program(alphabets[0], alphabets[1], draft.block)
