"""Machines of the effects of statements."""

from textloops.effects import EffectBook
from textloops.facts import facts_machine, place_tests
from textloops.machines import constant_machine, joined, mapped
from textloops.rounds import Rounds


class Tabling:
    """Works out the machines of statements; the names of a machine are the loops around its statement.

    `met` has, for each spot, the standings for which the effects are asked, as a dict of True. If a statement can be
    begun with a standing out of one of those met at the statement around it or before it, it has to be met, too.
    """

    def __init__(self, program, outline, standings, met):
        self.program = program
        self.outline = outline
        self.standings = standings
        self.met = met
        self.books = {}
        self.machines = {}
        self.known_rounds = {}

    def book(self, spot):
        """Returns the book of the effects at a spot."""
        return self.book_for(self.standings.total(spot))

    def book_for(self, count):
        if count not in self.books:
            self.books[count] = EffectBook(count)
        return self.books[count]

    def machine(self, spot):
        """Returns the machine of the statement at the spot."""
        if spot not in self.machines:
            for within in range(self.outline.ends[spot] - 1, spot - 1, -1):
                if within not in self.machines:
                    self.machines[within] = self.machine_of(within)
        return self.machines[spot]

    def machine_of(self, spot):
        """Works out the machine of a statement when those of the statements within it are known."""
        statement = self.outline.statements[spot]
        if statement[0] == "for":
            return self.rounds(spot).whole(self.met[spot], self.met_within(spot))
        if statement[0] == "mark":
            return self.mark_machine(spot)
        if statement[0] == "if":
            return self.choice_machine(spot)
        if statement[0] == "copy":
            return self.copy_machine(spot, statement[1])
        if statement[0] == "print":
            return self.plain_machine(spot, self.standings.behind_word(spot, statement[1]))
        return self.plain_machine(spot, self.standings.behind_mark(spot))

    def effect(self, spot, targets):
        """Returns the effect that leads the standings met at the spot to these targets."""
        return self.book(spot).number([(standing, targets[standing]) for standing in sorted(self.met[spot])])

    def names(self, spot):
        return self.program.spots[spot][1]

    def constant(self, count, effect):
        return constant_machine(len(self.program.reads), count, effect)

    def plain_machine(self, spot, targets):
        """Returns the machine of a statement that leads to these targets, whatever the text is."""
        return self.constant(len(self.names(spot)), self.effect(spot, targets))

    def copy_machine(self, spot, name):
        reads = self.program.reads
        effects = [self.effect(spot, self.standings.behind_word(spot, letter)) for letter in reads]
        letters = facts_machine(reads, self.names(spot), [("in", name, letter) for letter in reads])
        return mapped(letters, lambda truths: effects[truths.index(True)])

    def block_machine(self, block, names, book, met):
        """Returns the machine of a block that is begun in the met standings; the names are the loops around it."""
        machine = self.constant(len(names), book.staying(met))
        for spot in block:
            machine = joined(machine, self.machine(spot), book.then)
        return machine

    def rounds(self, spot):
        """Returns the rounds of the loop at the spot."""
        if spot not in self.known_rounds:
            _, name, way, _ = self.outline.statements[spot]
            names = (*self.names(spot), name)
            body = self.block_machine(self.outline.blocks[spot][0], names, self.book(spot), self.met_within(spot))
            self.known_rounds[spot] = Rounds(self.book(spot), body, way)
        return self.known_rounds[spot]

    def met_within(self, spot):
        """Returns the standings with which rounds of the loop at the spot begin."""
        block = self.outline.blocks[spot][0]
        return self.met[block[0]] if block else self.met[spot]

    def mark_machine(self, spot):
        standings = self.standings
        outer = self.book(spot)
        inner = self.book_for(2 * outer.nowhere)
        met = {standings.with_mark(one): True for one in self.met[spot]}
        body = self.block_machine(self.outline.blocks[spot][0], self.names(spot), inner, met)

        def without_mark(effect):
            found = []
            for one in sorted(self.met[spot]):
                found.append((one, standings.without_mark(inner.target(standings.with_mark(one), effect))))
            return outer.number(found)

        return mapped(body, without_mark)

    def choice_machine(self, spot):
        """Returns the machine of an `if`."""
        book = self.book(spot)
        names = self.names(spot)
        tests = place_tests(self.outline.statements[spot][1])
        facts = facts_machine(self.program.reads, names, tests)
        machine = self.constant(len(names), book.staying({}))
        for branch, block in enumerate(self.outline.blocks[spot]):
            chosen = mapped(facts, self.mask_of(spot, tests, branch))
            inner = self.block_machine(block, names, book, self.met[spot])
            machine = joined(machine, joined(chosen, inner, book.then), book.either)
        return machine

    def mask_of(self, spot, tests, branch):
        """Returns a function from the truth values of the tests to the effect of coming to this branch of the `if`."""
        book = self.book(spot)

        def mask(truths):
            known = {test: truth for test, truth in zip(tests, truths)}
            found = self.standings.test_chances(spot, self.outline.statements[spot][1], known)
            return book.staying({one: True for one in self.met[spot] if found[one][branch]})

        return mask
