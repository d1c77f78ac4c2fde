"""With which marks the statements of a program are begun in its runs."""

from textloops.entries import Entries
from textloops.facts import facts_machine, place_tests
from textloops.machines import constant_machine, joined, lifted, mapped
from textloops.outlines import Outline
from textloops.prefixes import Prefixes
from textloops.readers import Reader
from textloops.standings import Standings
from textloops.tabling import Tabling


class Reaching:
    """Works out, for spots, machines that tell in which standing a run begins the statement there.

    There is no watcher in this; so the standings are the truth values of the marks. If the statement is not begun,
    the answer is the number behind the last standing.
    """

    def __init__(self, program):
        self.program = program
        self.outline = Outline(program.block)
        # A watcher of one state sees nothing.
        watcher = Reader(program.prints, [[0 for _ in program.prints]], [0])
        self.standings = Standings(program, self.outline, watcher)
        entries = Entries(self.outline, self.standings)
        entries.go_from(self.outline.block, [0])
        self.met = entries.met
        self.tabling = Tabling(program, self.outline, self.standings, entries.met)
        self.found = {}

    def machine(self, spot):
        """Returns the machine of a spot; its names are the loops around the statement."""
        way = []
        while spot != -1 and spot not in self.found:
            way.append(spot)
            spot = self.spot_before(spot)
        for later in way[::-1]:
            self.found[later] = self.worked_out(later)
        return self.found[way[0] if way else spot]

    def nowhere(self, spot):
        """Returns the number which says that the statement at the spot is not begun."""
        book = self.tabling.book(spot)
        return book.nowhere

    def begun(self, spot):
        """Returns the machine that tells whether the statement is begun."""
        nowhere = self.nowhere(spot)
        return mapped(self.machine(spot), lambda standing: standing != nowhere)

    def printed(self, spot):
        """Returns the machine of what the statement, a `print` or a `copy`, prints."""
        word, item = self.outline.statements[spot]
        if word == "print":
            return mapped(self.begun(spot), lambda is_begun: item if is_begun else "")
        reads = self.program.reads
        tests = [("in", item, letter) for letter in reads]
        facts = facts_machine(reads, self.tabling.names(spot), tests)
        letters = mapped(facts, lambda truths: reads[truths.index(True)])
        return joined(letters, self.begun(spot), lambda letter, is_begun: letter if is_begun else "")

    def printing_spots(self, names):
        """Returns the spots of the statements that print and have just the loops with these names around them."""
        found = []
        for spot, (kind, loops, _) in enumerate(self.program.spots):
            if kind in ("print", "copy") and sorted(loops) == sorted(names):
                found.append(spot)
        return found

    def spot_before(self, spot):
        """Returns the statement before this one in the same block, or the one in which the block stands, or -1."""
        parent, _, index = self.outline.homes[spot]
        return self.outline.block_around(spot)[index - 1] if index > 0 else parent

    def worked_out(self, spot):
        """Returns the machine of a spot when the one of the spot before it is known."""
        parent, branch, index = self.outline.homes[spot]
        if index > 0:
            before = self.spot_before(spot)
            book = self.tabling.book(spot)
            return joined(self.found[before], self.tabling.machine(before), book.target)
        if parent == -1:
            return constant_machine(len(self.program.reads), 0, 0)
        kind = self.outline.statements[parent][0]
        if kind == "for":
            return self.within_loop(parent)
        if kind == "mark":
            return mapped(self.found[parent], self.standings.with_mark)
        return self.within_choice(parent, branch)

    def within_loop(self, loop):
        """Returns the machine of the first statement in a loop."""
        rounds = self.tabling.rounds(loop)
        book = self.tabling.book(loop)
        before = Prefixes(rounds).made(self.met[loop], self.tabling.met_within(loop))
        return joined(lifted(self.found[loop]), before, book.target)

    def within_choice(self, spot, branch):
        """Returns the machine of the first statement of a branch of an `if`."""
        test = self.outline.statements[spot][1]
        return self.chosen(spot, test, lambda pair, standing, nowhere: standing if pair[branch] else nowhere)

    def chosen(self, spot, test, answer_of):
        """Returns the machine with the answers `answer_of(pair, standing, nowhere)`.

        Here `pair` tells whether the test holds, and whether it fails, in the standing in which the run begins the
        statement at the spot; `nowhere` says that it does not begin it.
        """
        tests = place_tests(test)
        facts = facts_machine(self.program.reads, self.tabling.names(spot), tests)
        nowhere = self.nowhere(spot)

        def answer(truths, standing):
            if standing == nowhere:
                return answer_of((False, False), nowhere, nowhere)
            known = {part: truth for part, truth in zip(tests, truths)}
            return answer_of(self.standings.test_chances(spot, test, known)[standing], standing, nowhere)

        return joined(facts, self.machine(spot), answer)
