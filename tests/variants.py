"""Programs that are nearly the same as a given one."""

from textloops.programs import Program, blocks_within


def changed_block(rng, block, chance):
    """The block with some small changes; names and what they may be used for stay right."""
    found = [changed_statement(rng, statement, chance) for statement in block]
    if len(found) > 1 and rng.random() < chance:
        at = rng.randrange(len(found) - 1)
        found[at:at + 2] = found[at:at + 2][::-1]
    if found and rng.random() < chance / 3:
        del found[rng.randrange(len(found))]
    return tuple(found)


def changed_statement(rng, statement, chance):
    if statement[0] == "for":
        word, name, way, block = statement
        if len(block) == 1 and block[0][0] == "for" and rng.random() < chance:
            inner = ("for", name, way, changed_block(rng, block[0][3], chance))
            return ("for", block[0][1], block[0][2], (inner,))
        if rng.random() < chance / 2:
            way = "down" if way == "up" else "up"
        return (word, name, way, changed_block(rng, block, chance))
    if statement[0] == "print" and rng.random() < chance / 2:
        return ("print", rng.choice([statement[1][::-1], statement[1] + statement[1][0], statement[1][:1]]))
    if statement[0] == "if" and rng.random() < chance / 2:
        statement = ("if", ("not", statement[1]), statement[3], statement[2])
    blocks = [changed_block(rng, block, chance) for block in blocks_within(statement)]
    return (*statement[:len(statement) - len(blocks)], *blocks)


def variant(rng, program, chance=0.3):
    """A program with some small changes, which may print the same or not."""
    return Program(program.reads, program.prints, changed_block(rng, program.block, chance))
