"""Statements by their spots."""

from textloops.programs import blocks_within


class Outline:
    """The statements of a block by their spots; blocks are tuples of spots.

    `blocks` has the blocks that stand in each statement itself; `homes` has, for each statement, the triple of the
    statement in which its block stands (-1 for the outermost block), the index of this block in it, and the
    statement's index in the block. `ends` has, for each statement, the spot behind all that stands within it.
    """

    def __init__(self, block):
        statements = []
        homes = []
        waiting = [(part, -1, 0, at) for at, part in list(enumerate(block))[::-1]]
        while waiting:
            statement, parent, branch, index = waiting.pop()
            spot = len(statements)
            statements.append(statement)
            homes.append((parent, branch, index))
            within = blocks_within(statement)
            for number in range(len(within) - 1, -1, -1):
                inner = within[number]
                waiting.extend([(inner[at], spot, number, at) for at in range(len(inner) - 1, -1, -1)])
        self.statements = tuple(statements)
        self.homes = tuple(homes)
        self.block, self.blocks = spots_of_blocks(statements, homes)
        self.ends = ends_of_statements(homes)

    def block_around(self, spot):
        """Returns the block in which the statement stands."""
        parent, branch, _ = self.homes[spot]
        return self.block if parent == -1 else self.blocks[parent][branch]


def spots_of_blocks(statements, homes):
    """Returns the outermost block, and for each statement the blocks in it."""
    outermost = []
    rows = [[[] for _ in blocks_within(statement)] for statement in statements]
    for spot, (parent, branch, _) in enumerate(homes):
        if parent == -1:
            outermost.append(spot)
        else:
            rows[parent][branch].append(spot)
    return (tuple(outermost), tuple([tuple([tuple(block) for block in row]) for row in rows]))


def ends_of_statements(homes):
    """Returns, for each statement, the spot behind all that stands within it."""
    ends = [spot + 1 for spot in range(len(homes))]
    for spot in range(len(homes) - 1, -1, -1):
        parent = homes[spot][0]
        if parent != -1:
            ends[parent] = max(ends[parent], ends[spot])
    return tuple(ends)
