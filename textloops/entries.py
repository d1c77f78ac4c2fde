"""The standings with which the statements of a program can be begun."""


class Entries:
    """Goes from statement to statement with standings, whatever the letters and places are.

    So the standings met at a statement are all those with which a run can begin it, and perhaps more.
    """

    def __init__(self, outline, standings):
        self.outline = outline
        self.standings = standings
        self.met = [{} for _ in outline.statements]
        self.done = [{} for _ in outline.statements]
        self.targets = {}
        self.waiting = []

    def go_from(self, block, entering):
        """Finds what is met when statements of a block, given by their spots, are begun with these standings."""
        last = block[-1] if block else None
        for standing in entering:
            self.begin_block(-1, block, standing)
        while self.waiting:
            is_begun, spot, standing = self.waiting.pop()
            if is_begun:
                self.do_statement(spot, standing)
            elif spot != last:
                self.go_on(spot, standing)

    def begin(self, spot, standing):
        if standing not in self.met[spot]:
            self.met[spot][standing] = True
            self.waiting.append((True, spot, standing))

    def finish(self, spot, standing):
        if standing not in self.done[spot]:
            self.done[spot][standing] = True
            self.waiting.append((False, spot, standing))

    def begin_block(self, parent, block, standing):
        if block:
            self.begin(block[0], standing)
        elif parent != -1:
            self.end_block(parent, standing)

    def end_block(self, parent, standing):
        """Goes on where a block of the parent ends."""
        kind = self.outline.statements[parent][0]
        if kind == "for" and self.outline.blocks[parent][0]:
            self.begin(self.outline.blocks[parent][0][0], standing)
        self.finish(parent, self.standings.without_mark(standing) if kind == "mark" else standing)

    def go_on(self, spot, standing):
        """Goes on behind a statement."""
        parent, _, index = self.outline.homes[spot]
        block = self.outline.block_around(spot)
        if index + 1 < len(block):
            self.begin(block[index + 1], standing)
        else:
            self.end_block(parent, standing)

    def do_statement(self, spot, standing):
        """Goes on where a statement is begun."""
        kind = self.outline.statements[spot][0]
        blocks = self.outline.blocks[spot]
        if kind == "for":
            self.finish(spot, standing)
            self.begin_block(spot, blocks[0], standing)
        elif kind == "mark":
            self.begin_block(spot, blocks[0], self.standings.with_mark(standing))
        elif kind == "if":
            for block, is_open in zip(blocks, self.targets_of(spot)[standing]):
                if is_open:
                    self.begin_block(spot, block, standing)
        else:
            for targets in self.targets_of(spot):
                self.finish(spot, targets[standing])

    def targets_of(self, spot):
        """Returns, for an `if`, the pairs of chances by standing, otherwise a list of lists of what follows."""
        if spot not in self.targets:
            statement = self.outline.statements[spot]
            if statement[0] == "if":
                self.targets[spot] = self.standings.test_chances(spot, statement[1], {})
            elif statement[0] in ("set", "clear"):
                self.targets[spot] = [self.standings.behind_mark(spot)]
            elif statement[0] == "print":
                self.targets[spot] = [self.standings.behind_word(spot, statement[1])]
            else:
                letters = self.standings.reads
                self.targets[spot] = [self.standings.behind_word(spot, letter) for letter in letters]
        return self.targets[spot]
