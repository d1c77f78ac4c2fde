"""Questions about small programs take a moment; the limits here are many times what they take."""

import random
import time
import unittest

from tests.shapes import FOUR_MARKS, TWO_LOOPS, Shaper
from textloops.asking import far_answer
from textloops.foretelling import foretell, printing, verdict
from textloops.tables import table, tables, whole_table
from textloops.turning import turned
from textloops.watchers import containing, counting, ending, exactly, never_behind, scattered

WATCHERS = (
    counting("ab", "a", 2), counting("ab", "b", 3), ending("ab"), containing("ab", "ab"), scattered("ab", "ba"),
    never_behind("ab", "a", "b"), exactly("ab", "a"),
)
MANY = 10 ** 40


class SpeedTest(unittest.TestCase):
    def assertSoon(self, seconds, function, *rest, **more):
        begin = time.perf_counter()
        found = function(*rest, **more)
        self.assertLess(time.perf_counter() - begin, seconds)
        return found

    def test_programs_of_the_sizes_that_are_meant(self):
        for program in (TWO_LOOPS, FOUR_MARKS):
            for watcher in WATCHERS:
                # The table of this loop has more than 300,000 states in least form.
                if program != FOUR_MARKS or watcher != counting("ab", "b", 3):
                    self.assertSoon(5, tables, program, watcher)
                self.assertSoon(5, whole_table, program, watcher)
                self.assertSoon(5, table, program, watcher, 2)
                reader = self.assertSoon(5, foretell, program, watcher)
                self.assertSoon(1, far_answer, reader, [("ab", MANY), ("b", 3), ("aab", MANY - 1)])
                self.assertSoon(5, verdict, program, watcher, wished=[True, 0], within=containing("ab", "ab"))
            self.assertSoon(5, printing, program, "abba")
            self.assertSoon(5, turned, program)

    def test_many_random_programs(self):
        begin = time.perf_counter()
        for seed in range(60):
            rng = random.Random(seed)
            for program in (Shaper(rng).two_loops(), Shaper(rng).four_marks()):
                watcher = rng.choice(WATCHERS)
                tables(program, watcher)
                foretell(program, watcher)
                printing(program, "ab")
        self.assertLess(time.perf_counter() - begin, 60)


if __name__ == "__main__":
    unittest.main()
