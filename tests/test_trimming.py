import random
import unittest

from tests.faults import fault
from tests.reference import random_description, texts_up_to
from tests.runs import Maker, plain_births, statements_of
from tests.shapes import AFTER_A, FOUR_MARKS, PAIRS, TWO_LOOPS, Shaper
from textloops.alike import same_row
from textloops.programs import Program, blocks_within
from textloops.readers import Reader
from textloops.running import births
from textloops.trimming import exchanged, needless, opened, struck, trimmed
from textloops.watchers import containing, counting, ending, exactly
from textloops.writing import format_program, parse_program

LENGTHS = {1: 6, 2: 5, 3: 3}
NONE = Reader("ab", [(0, 0)], [False])


def plain_block(block, spot, change):
    """The block in which `change(block, index)` has been done at a spot; also the number of statements gone over."""
    for index, statement in enumerate(block):
        if spot == 0:
            return change(block, index)
        size = len(statements_of((statement,)))
        if spot < size:
            return (*block[:index], plain_statement(statement, spot - 1, change), *block[index + 1:])
        spot -= size
    raise AssertionError


def plain_statement(statement, spot, change):
    blocks = list(blocks_within(statement))
    for at, block in enumerate(blocks):
        size = len(statements_of(block))
        if 0 <= spot < size:
            blocks[at] = plain_block(block, spot, change)
        spot -= size
    return (*statement[:len(statement) - len(blocks)], *blocks)


def plain_struck(program, spot):
    block = plain_block(program.block, spot, lambda block, index: (*block[:index], *block[index + 1:]))
    return Program(program.reads, program.prints, block)


def plain_opened(program, spot, branch):
    def change(block, index):
        return (*block[:index], *block[index][2 + branch], *block[index + 1:])
    return Program(program.reads, program.prints, plain_block(program.block, spot, change))


def plain_exchanged(program, spot):
    def change(block, index):
        return (*block[:index], block[index + 1], block[index], *block[index + 2:])
    return Program(program.reads, program.prints, plain_block(program.block, spot, change))


def rows_on(program, texts):
    return [plain_births(program, text) for text in texts]


def plain_trimmed(program, texts):
    """What is left when the rounds of the document are done, as far as these texts tell."""
    rows = rows_on(program, texts)
    size = -1
    while size != program.size:
        size = program.size
        for spot in range(size - 1, -1, -1):
            changes = [plain_struck(program, spot)]
            if program.spots[spot][0] == "if":
                changes += [plain_opened(program, spot, 0), plain_opened(program, spot, 1)]
            program = next((change for change in changes if rows_on(change, texts) == rows), program)
    return program


def cases(seed, rounds):
    for number in range(rounds):
        rng = random.Random(seed + number)
        if number % 3 == 0:
            program = Shaper(rng).two_loops() if number % 2 else Shaper(rng).four_marks()
        else:
            program = Maker(rng, rng.choice(["a", "ab", "abc"]), rng.choice(["c", "abc"]), 3, 3, 3).program(12)
        within = None
        if rng.random() < 0.5:
            within = Reader(**random_description(rng, program.reads, [], [True, False], 3))
        yield program, within


def texts_for(program, within):
    texts = texts_up_to(program.reads, LENGTHS[len(program.reads)])
    return [text for text in texts if within is None or within(text)]


class ChangesTest(unittest.TestCase):
    def test_each_spot_of_random_programs(self):
        seen = set()
        for program, _ in cases(0, 120):
            block = program.block
            for spot, (kind, _, _) in enumerate(program.spots):
                self.assertEqual(struck(program, spot), plain_struck(program, spot))
                if kind == "if":
                    for branch in (0, 1):
                        self.assertEqual(opened(program, spot, branch), plain_opened(program, spot, branch))
                else:
                    self.assertEqual(fault(opened, program, spot, 0), ("NotAnIf", spot))
                try:
                    wanted = plain_exchanged(program, spot)
                except IndexError:
                    self.assertEqual(fault(exchanged, program, spot), ("NoNeighbour", spot))
                    seen.add("last")
                else:
                    self.assertEqual(exchanged(program, spot), wanted)
                    seen.add("other")
            self.assertIs(program.block, block)
        self.assertEqual(seen, {"last", "other"})

    def test_what_is_left(self):
        text = (
            "reads ab prints ab\nfor x up:\n  if x in a:\n    pass\n  else:\n    copy x\n    print a\nprint b\n"
            "mark m:\n  set m"
        )
        program = parse_program(text)
        self.assertEqual(format_program(struck(program, 0)), "reads ab prints ab\nprint b\nmark m:\n  set m")
        self.assertEqual(format_program(struck(program, 1))[19:], "for x up:\n  pass\nprint b\nmark m:\n  set m")
        self.assertEqual(format_program(struck(program, 6))[-7:], "\n  pass")
        self.assertEqual(struck(struck(struck(program, 5), 4), 0).block, ())
        self.assertEqual(format_program(opened(program, 1, 0)), format_program(struck(program, 1)))
        self.assertEqual(format_program(opened(program, 1, branch=1))[19:50], "for x up:\n  copy x\n  print a\npr")
        self.assertEqual(format_program(exchanged(program, 2))[-46:-32], "    print a\n  ")
        moved = exchanged(program, 0)
        self.assertEqual([kind for kind, _, _ in moved.spots], ["print", "for", "if", "copy", "print", "mark", "set"])
        self.assertEqual(exchanged(moved, 0), program)
        self.assertEqual(struck(program=Program("a", "b", [("print", "b")]), spot=0), Program("a", "b", []))

    def test_errors(self):
        for spot in (-1, 5, 99):
            for asked in (struck, exchanged, needless):
                self.assertEqual(fault(asked, PAIRS, spot), ("UnknownSpot", spot))
            self.assertEqual(fault(opened, PAIRS, spot, 0), ("UnknownSpot", spot))
        for spot in (0, 2, 4):
            self.assertEqual(fault(opened, PAIRS, spot, 1), ("NotAnIf", spot))
        for spot in range(5):
            self.assertEqual(fault(exchanged, PAIRS, spot), ("NoNeighbour", spot))
        self.assertEqual(opened(program=PAIRS, spot=1, branch=1).block, (("for", "x", "up", ()),))


class NeedlessTest(unittest.TestCase):
    def test_random_programs(self):
        found = []
        for program, within in cases(500, 60):
            texts = texts_for(program, within)
            for spot in range(program.size):
                got = needless(program, spot, within=within)
                other = plain_struck(program, spot)
                wanted = next((text for text in texts if plain_births(program, text) != plain_births(other, text)), None)
                if got is None or len(got) <= LENGTHS[len(program.reads)]:
                    self.assertEqual(got, wanted)
                else:
                    self.assertIsNone(wanted)
                found.append(got is None)
        self.assertEqual(set(found), {True, False})

    def test_births_and_not_only_letters(self):
        program = parse_program(
            "reads ab prints c\nmark m:\n  for x up:\n    if not m:\n      print c\n      set m\n  for y up:\n"
            "    if not m:\n      print c"
        )
        self.assertEqual([needless(program, spot) for spot in range(8)], ["a"] * 5 + [None] * 3)
        # Without the first loop the second one prints letters, but with other births.
        self.assertEqual(births(struck(program, 1), "a"), (("c", (("y", 0),)),))

    def test_limits(self):
        self.assertEqual(needless(program=PAIRS, spot=1, within=None), "ab")
        self.assertIsNone(needless(PAIRS, 4, within=exactly("ab", "bbaa")))
        self.assertEqual(needless(PAIRS, 4, within=containing("ab", "aab")), "aab")
        self.assertIsNone(needless(PAIRS, 0, within=NONE))
        for limit in (counting("ab", "a", 2), ending("ab"), containing("a", "a")):
            self.assertEqual(fault(needless, PAIRS, 0, within=limit), ("WrongLimit",))
            self.assertEqual(fault(needless, PAIRS, 7, within=limit), ("UnknownSpot", 7))
            self.assertEqual(fault(trimmed, PAIRS, within=limit), ("WrongLimit",))


class TrimmedTest(unittest.TestCase):
    def assertTrimmed(self, program, within):
        made = trimmed(program, within=within)
        self.assertEqual(made, plain_trimmed(program, texts_for(program, within)))
        self.assertIsNone(same_row(made, program, within=within))
        return made

    def test_random_programs(self):
        sizes = []
        for program, within in cases(800, 60):
            made = self.assertTrimmed(program, within)
            sizes.append(program.size - made.size)
            for spot in range(made.size):
                self.assertIsNotNone(needless(made, spot, within=within))
        self.assertGreater(len(set(sizes)), 5)

    def test_the_order_of_changes(self):
        # One of both prints could be left out, and it is the last one. Marks are struck only with all within them.
        text = "reads ab prints c\nmark m:\n  mark n:\n    if not m:\n      print c\n      set m\n    if not n:\n      set n"
        more = "\n  if not m:\n    print c"
        made = self.assertTrimmed(parse_program(text + more), None)
        self.assertEqual(format_program(made), "reads ab prints c\nmark m:\n  mark n:\n    print c")
        chosen = parse_program("reads ab prints c\nfor x up:\n  if x in a:\n    print c\n  else:\n    print c")
        self.assertEqual(format_program(trimmed(chosen)), "reads ab prints c\nfor x up:\n  print c")
        nothing = parse_program("reads ab prints c\nfor x up:\n  mark m:\n    if m:\n      for y up:\n        print c")
        self.assertEqual(trimmed(nothing).block, ())

    def test_a_second_round(self):
        # Only when the print is left out, the mark is not needed any more, although its spot was looked at before.
        program = parse_program(
            "reads ab prints c\nmark m:\n  mark n:\n    if n:\n      if m:\n        print c\n    set m\n    for x up:\n"
            "      if m:\n        print c"
        )
        made = self.assertTrimmed(program, None)
        wanted = "reads ab prints c\nmark m:\n  mark n:\n    for x up:\n      print c"
        self.assertEqual(format_program(made), wanted)

    def test_limits(self):
        self.assertEqual(trimmed(PAIRS), PAIRS)
        for block in ([("mark", "m", [])], [("for", "x", "up", [])], []):
            self.assertEqual(trimmed(Program("a", "c", block)), Program("a", "c", []))
        self.assertEqual(trimmed(AFTER_A), AFTER_A)
        self.assertEqual(trimmed(PAIRS, within=NONE).block, ())
        only = self.assertTrimmed(PAIRS, exactly("ab", "ab"))
        self.assertLess(only.size, PAIRS.size)
        self.assertEqual(trimmed(program=AFTER_A, within=exactly("ab", "aa")).size, 5)

    def test_programs_with_nothing_to_leave_out(self):
        for program in (TWO_LOOPS, FOUR_MARKS):
            for within in (None, containing("ab", "bb")):
                made = trimmed(program, within=within)
                self.assertIsNone(same_row(made, program, within=within))
                self.assertEqual(trimmed(made, within=within), made)


if __name__ == "__main__":
    unittest.main()
