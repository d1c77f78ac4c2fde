"""Questions about small programs take a moment; the limits here are many times what they take."""

import random
import time
import unittest

from tests.faults import fault
from tests.shapes import FOUR_MARKS, TWO_LOOPS, Shaper
from textloops.alike import same_letters, same_lot, same_row
from textloops.asking import far_answer
from textloops.changing import beside, mirrored, recoded, renamed
from textloops.comparing import paired, relabelled
from textloops.desk import Desk, perform
from textloops.foretelling import foretell, printing, verdict
from textloops.hanging import hangs
from textloops.joining import behind, copying, row_of
from textloops.marks import markless
from textloops.powers import greatest, power
from textloops.reaches import claim, come_to, printed_at, reach
from textloops.reading import guarded, reading
from textloops.tables import table, tables, whole_table
from textloops.tallies import count_parting, far_count, tally, total_count
from textloops.telling import tells
from textloops.trimming import needless, trimmed
from textloops.turning import turned
from textloops.watchers import containing, counting, ending, exactly, never_behind, scattered

WATCHERS = (
    counting("ab", "a", 2), counting("ab", "b", 3), ending("ab"), containing("ab", "ab"), scattered("ab", "ba"),
    never_behind("ab", "a", "b"), exactly("ab", "a"),
)
MANY = 10 ** 40


def counting_limit():
    """Lets by the texts with an even number of letters b."""
    return relabelled(counting("ab", "b", 2), [(0, True), (1, False)])


def watcher_limit(watcher):
    return containing("ab", "a") if watcher.answers[0] is False else None


class SpeedTest(unittest.TestCase):
    def assertSoon(self, seconds, function, *rest, **more):
        begin = time.perf_counter()
        found = function(*rest, **more)
        self.assertLess(time.perf_counter() - begin, seconds)
        return found

    def test_programs_of_the_sizes_that_are_meant(self):
        for program in (TWO_LOOPS, FOUR_MARKS):
            for watcher in WATCHERS:
                # The table of this loop has more than 300,000 states in least form.
                if program != FOUR_MARKS or watcher != counting("ab", "b", 3):
                    self.assertSoon(5, tables, program, watcher)
                self.assertSoon(5, whole_table, program, watcher)
                self.assertSoon(5, table, program, watcher, 2)
                reader = self.assertSoon(5, foretell, program, watcher)
                self.assertSoon(1, far_answer, reader, [("ab", MANY), ("b", 3), ("aab", MANY - 1)])
                self.assertSoon(5, verdict, program, watcher, wished=[True, 0], within=containing("ab", "ab"))
            self.assertSoon(5, printing, program, "abba")
            self.assertSoon(5, turned, program)

    def test_questions_about_runs_of_such_programs(self):
        limit = containing("ab", "ab")
        for program in (TWO_LOOPS, FOUR_MARKS):
            for spot in range(program.size):
                self.assertSoon(5, reach, program, spot)
                self.assertSoon(5, come_to, program, spot, within=limit)
                for name in program.spots[spot][2]:
                    self.assertSoon(5, claim, program, spot, ("not", ("mark", name)), within=limit)
                self.assertSoon(5, hangs, program, spot)
            for names in ([], ["x"], ["x", "y"]):
                self.assertSoon(5, printed_at, program, names)
            made = self.assertSoon(5, tally, program)
            other = self.assertSoon(5, tally, program, letters="a", within=limit)
            self.assertSoon(5, count_parting, made, other)
            for one in (made, other):
                self.assertSoon(1, far_count, one, [("ab", MANY), ("b", 3), ("aab", MANY - 1)])
                self.assertSoon(5, total_count, one, 500)
            self.assertSoon(5, behind, program, copying("ab"))
            self.assertSoon(5, row_of, [copying("ab"), copying("ab"), program])
            self.assertSoon(5, behind, program, TWO_LOOPS)

    def test_questions_about_births_and_growth(self):
        limit = containing("ab", "ab")
        for program in (TWO_LOOPS, FOUR_MARKS, mirrored(TWO_LOOPS), mirrored(FOUR_MARKS)):
            for within in (None, limit):
                self.assertSoon(5, power, program, within=within)
                self.assertSoon(5, power, program, letters="a", within=within)
                bounded = exactly("ab", "abababab") if within else counting_limit()
                self.assertSoon(5, fault, greatest, program, within=bounded)
                for other in (turned(turned(program)), turned(program), mirrored(program)):
                    for asked in (same_lot, same_row, same_letters):
                        self.assertSoon(6, asked, program, other, within=within)
                self.assertSoon(5, tells, program, within=within)
                tagged = beside(program, renamed(copying("ab"), [("x", "z")]))
                self.assertIsNone(self.assertSoon(5, tells, tagged, within=within))
            self.assertSoon(5, recoded, program, [("a", "ba"), ("b", "")], prints="ab")

    def test_limits_with_many_states(self):
        count = counting("ab", "a", 12)
        limit = relabelled(paired(count, counting("ab", "b", 11)), [((2, 3), True)])
        rest = [(answer, False) for answer in limit.answers if answer is not True]
        limit = relabelled(limit, rest)
        for program in (copying("ab"), FOUR_MARKS, mirrored(FOUR_MARKS)):
            self.assertSoon(5, power, program, within=limit)
            self.assertSoon(8, tells, program, within=limit)
            self.assertSoon(5, same_letters, program, turned(program), within=limit)
            self.assertSoon(8, same_row, program, mirrored(program), within=limit)

    def test_leaving_out_and_marks(self):
        limit = containing("ab", "ab")
        for program in (TWO_LOOPS, FOUR_MARKS, mirrored(TWO_LOOPS), mirrored(FOUR_MARKS)):
            for within in (None, limit):
                self.assertSoon(6, trimmed, program, within=within)
                for spot in range(program.size):
                    self.assertSoon(5, needless, program, spot, within=within)
            self.assertSoon(5, markless, program)
            for side in ("before", "after"):
                made = self.assertSoon(5, guarded, program, program.size - 1, "x", containing("ab", "ba"), side=side)
                self.assertSoon(5, foretell, made, counting("ab", "a", 2))
                self.assertSoon(5, trimmed, made)
        for seed in range(40):
            rng = random.Random(seed)
            for program in (Shaper(rng).two_loops(), mirrored(Shaper(rng).four_marks())):
                self.assertSoon(6, trimmed, program)
                self.assertSoon(5, markless, program)

    def test_readers_in_programs_and_the_desk(self):
        words = [(number, "ab" * number) for number in range(12)]
        made = self.assertSoon(5, reading, counting("ab", "a", 12), words, prints="ab")
        self.assertSoon(5, foretell, made, counting("ab", "a", 3))
        self.assertSoon(5, reading, exactly("ab", "ab" * 20), [(True, "a"), (False, "")], prints="a")
        desk = Desk()
        programs = {"two": TWO_LOOPS, "four": FOUR_MARKS, "turn": turned(copying("ab")), "same": copying("ab")}
        for name, program in programs.items():
            self.assertSoon(5, desk.put_program, name, program)
        for number, watcher in enumerate(WATCHERS):
            self.assertSoon(5, desk.put_watcher, f"w{number}", watcher)
            for name in ("two", "four"):
                row = ["same", name, "turn"]
                self.assertSoon(5, desk.foretold, row, f"w{number}")
                wished = (0, 1, 2, True, False, "", "a", "b")
                self.assertSoon(5, desk.put_wish, f"{name}{number}", row, f"w{number}", wished=wished)
        self.assertSoon(8, desk.put_program, "turn", copying("ab"))
        self.assertSoon(5, perform, desk, [("program", "two", FOUR_MARKS), ("program", "four", TWO_LOOPS)], late=True)

    def test_births_and_growth_of_many_random_programs(self):
        begin = time.perf_counter()
        for seed in range(60):
            rng = random.Random(seed)
            for program in (Shaper(rng).two_loops(), mirrored(Shaper(rng).four_marks())):
                power(program)
                fault(greatest, program, letters="a", within=counting_limit())
                same_row(program, turned(turned(program)))
                same_lot(program, mirrored(program))
                same_letters(program, turned(program))
                tells(program)
        self.assertLess(time.perf_counter() - begin, 60)

    def test_many_random_programs(self):
        begin = time.perf_counter()
        for seed in range(60):
            rng = random.Random(seed)
            for program in (Shaper(rng).two_loops(), Shaper(rng).four_marks()):
                watcher = rng.choice(WATCHERS)
                tables(program, watcher)
                foretell(program, watcher)
                printing(program, "ab")
                far_count(tally(program), [("ab", MANY)])
                hangs(program, program.size - 1)
                come_to(program, program.size - 1, within=watcher_limit(watcher))
        self.assertLess(time.perf_counter() - begin, 60)


if __name__ == "__main__":
    unittest.main()
