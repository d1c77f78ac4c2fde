import random
import unittest

from tests.faults import fault
from tests.reference import random_description, texts_up_to
from tests.runs import Maker, plain_print
from tests.shapes import AFTER_A, FOUR_MARKS, PAIRS, Shaper
from textloops.errors import Unbounded
from textloops.joining import copying
from textloops.powers import greatest, power
from textloops.programs import Program
from textloops.readers import Reader
from textloops.tallies import far_count, tally
from textloops.watchers import containing, counting, ending, exactly, never_behind, scattered
from textloops.writing import parse_program

NONE = Reader("ab", [(0, 0)], [False])
ALL = Reader("ab", [(0, 0)], [True])
LENGTHS = {1: 9, 2: 7, 3: 4}


def cases(seed, rounds):
    for number in range(rounds):
        rng = random.Random(seed + number)
        if number % 4 == 0:
            program = Shaper(rng).two_loops()
        elif number % 4 == 1:
            program = Shaper(rng).four_marks()
        else:
            reads = rng.choice(["a", "ab", "ab", "abc"])
            program = Maker(rng, reads, rng.choice(["c", "ab", "abc"]), 3, rng.randint(0, 3), 3).program(14)
        within = None
        if rng.random() < 0.6:
            within = Reader(**random_description(rng, program.reads, [], [True, False], 4))
        yield rng, program, rng.choice([None, None, program.prints[:1]]), within


def plain_count(program, text, letters):
    return len([letter for letter in plain_print(program, text) if letters is None or letter in letters])


def grown_degree(made, rng):
    """The greatest degree seen at texts with some words many times; the power is not less."""
    best = -1
    for _ in range(12):
        words = ["".join(rng.choice(made.alphabet) for _ in range(rng.randint(at % 2, 3))) for at in range(5)]
        few, many = [
            far_count(made, [(word, times if at % 2 else 1) for at, word in enumerate(words)])
            for times in (5040 * 10 ** 6, 5040 * 10 ** 9)
        ]
        degree = -1
        if few or many:
            degree = 0
            while many > 30 * few * 1000 ** degree:
                degree += 1
        best = max(best, degree)
    return best


class PowerTest(unittest.TestCase):
    def assertPower(self, program, letters=None, within=None):
        degree, rounds = power(program, letters=letters, within=within)
        made = tally(program, letters=letters, within=within)
        self.assertIsInstance(rounds, tuple)
        self.assertEqual(len(rounds), 0 if degree == -1 else 2 * degree + 1)
        self.assertTrue(all(rounds[1::2]))
        self.assertEqual(degree == -1, made.basis == ())
        for times in (1, 2, 3, 7) if rounds else ():
            pieces = [(word, times if at % 2 else 1) for at, word in enumerate(rounds)]
            text = "".join(word * own for word, own in pieces)
            self.assertTrue(within is None or within(text))
            self.assertGreaterEqual(far_count(made, pieces), times ** degree)
            if len(text) < 12:
                self.assertGreaterEqual(plain_count(program, text, letters), times ** degree)
        return degree

    def test_random_programs(self):
        degrees = []
        for rng, program, letters, within in cases(3000, 160):
            degree = self.assertPower(program, letters, within)
            self.assertLessEqual(grown_degree(tally(program, letters=letters, within=within), rng), degree)
            degrees.append(degree)
        self.assertEqual(set(degrees), {-1, 0, 1, 2, 3})

    def test_the_degree_holds_for_counts_of_long_texts(self):
        # The counts of all texts of a length are bounded by the power, and some reach it.
        for program, degree in ((PAIRS, 2), (AFTER_A, 1), (copying("ab"), 1), (FOUR_MARKS, 1)):
            self.assertEqual(self.assertPower(program), degree)
            made = tally(program)
            counts = [max(made(text) for text in texts_up_to("ab", size)[-2 ** size:]) for size in range(1, 10)]
            self.assertTrue(all(count <= 2 * (size + 2) ** degree for size, count in enumerate(counts)))

    def test_each_degree(self):
        block = [("print", "c")]
        for degree, name in enumerate(["", "x", "y", "z", "i"]):
            if name:
                block = [("for", name, "up", block)]
            self.assertEqual(self.assertPower(Program("ab", "c", block)), degree)
        self.assertEqual(power(Program("ab", "c", [])), (-1, ()))
        self.assertEqual(power(PAIRS, letters="c", within=NONE), (-1, ()))

    def test_loops_that_do_not_count(self):
        same = parse_program("reads ab prints c\nfor x up:\n  for y up:\n    if x at y:\n      print c")
        self.assertEqual(self.assertPower(same), 1)
        once = parse_program(
            "reads ab prints c\nmark m:\n  for x up:\n    for y up:\n      if not m:\n        print c\n        set m"
        )
        self.assertEqual(self.assertPower(once), 0)
        last = parse_program(
            "reads ab prints c\nmark m:\n  for x down:\n    if (x in b and not m):\n      print c\n      set m"
        )
        self.assertEqual(self.assertPower(last), 0)
        self.assertEqual(greatest(last), (1, "b"))
        near = parse_program(
            "reads ab prints c\nfor x up:\n  mark m:\n    for y up:\n      if (x before y and not m):\n"
            "        print c\n        set m"
        )
        self.assertEqual(self.assertPower(near), 1)

    def test_places_that_exclude_one_another(self):
        # Both loops go over one half of the text each: behind the last b, or before it.
        halves = parse_program(
            "reads ab prints c\nfor x up:\n  if x in a:\n    mark m:\n      for z up:\n        if (x before z and z in b):\n"
            "          set m\n      if m:\n        for y up:\n          mark n:\n            for w up:\n"
            "              if (y before w and w in b):\n                set n\n            if not n:\n              print c"
        )
        self.assertEqual(self.assertPower(halves), 2)
        self.assertEqual(self.assertPower(halves, within=never_behind("ab", "b", "a")), 1)
        self.assertEqual(self.assertPower(halves, within=never_behind("ab", "a", "b")), -1)

    def test_steps_that_take_several_letters(self):
        second = parse_program(
            "reads ab prints c\nfor x up:\n  mark m:\n    mark n:\n      for y up:\n        if x before y:\n"
            "          if (m and not n):\n            print c\n            set n\n          set m"
        )
        self.assertEqual(self.assertPower(second), 1)
        before_b = parse_program(
            "reads ab prints c\nmark m:\n  for x down:\n    if m:\n      print c\n    clear m\n    if x in b:\n      set m"
        )
        self.assertEqual(self.assertPower(before_b), 1)
        self.assertEqual(self.assertPower(before_b, within=never_behind("ab", "a", "b")), 1)
        self.assertEqual(self.assertPower(before_b, within=never_behind("ab", "b", "b")), 0)

    def test_several_ways_on(self):
        for first, other in ("ab", "ba"):
            # Behind one first letter all is let by, behind the other one nothing more.
            moves = [(1, 2), (1, 1), (3, 3), (3, 3)] if first == "a" else [(2, 1), (1, 1), (3, 3), (3, 3)]
            within = Reader("ab", moves, [False, True, True, False])
            self.assertEqual(self.assertPower(copying("ab"), within=within), 1)
            self.assertEqual(self.assertPower(copying("ab"), first, within), 1)
            self.assertEqual(self.assertPower(PAIRS, within=within), 2)
            self.assertTrue(within(first + other) and within(other))

    def test_letters_and_limits(self):
        program = parse_program("reads ab prints abc\nfor x up:\n  copy x\n  for y down:\n    print c")
        self.assertEqual([power(program, letters=some)[0] for some in ["a", "ab", "c", "abc", None]], [1, 1, 2, 2, 2])
        self.assertEqual(self.assertPower(program, "a", exactly("ab", "aab")), 0)
        self.assertEqual(self.assertPower(program, "a", exactly("ab", "bb")), -1)
        self.assertEqual(self.assertPower(program, "a", never_behind("ab", "a", "b")), 1)
        even = Reader("ab", counting("ab", "a", 2).moves, [True, False])
        self.assertEqual(self.assertPower(program, "a", even), 1)
        self.assertEqual(self.assertPower(program, None, even), 2)

    def test_errors(self):
        for asked in (power, greatest):
            for letters in ("", "d", "ba", "cc", "cd"):
                self.assertEqual(fault(asked, PAIRS, letters=letters), ("BadLetters", letters))
                self.assertEqual(fault(asked, PAIRS, letters=letters, within=ending("ab")), ("BadLetters", letters))
            for limit in (ending("ab"), containing("a", "a"), counting("ab", "a", 2)):
                self.assertEqual(fault(asked, PAIRS, letters="c", within=limit), ("WrongLimit",))
        self.assertEqual(power(program=PAIRS, letters=None, within=ALL)[0], 2)


class GreatestTest(unittest.TestCase):
    def test_random_programs(self):
        bounded = 0
        for _, program, letters, within in cases(5000, 160):
            length = LENGTHS[len(program.reads)]
            try:
                count, text = greatest(program, letters=letters, within=within)
            except Unbounded as error:
                self.assertEqual(error.rounds, power(program, letters=letters, within=within)[1])
                self.assertGreater(len(error.rounds), 2)
                continue
            found = {}
            for other in texts_up_to(program.reads, length):
                if within is None or within(other):
                    found.setdefault(plain_count(program, other, letters), other)
            best = max(found.items(), default=(0, None))
            if text is None or len(text) <= length:
                self.assertEqual((count, text), best)
            else:
                self.assertGreaterEqual(count, best[0])
            bounded += 1
        self.assertGreater(bounded, 30)

    def test_least_text_with_the_greatest_count(self):
        program = parse_program(
            "reads ab prints cd\nmark m:\n  mark n:\n    for x up:\n      if (m and n):\n        pass\n      else:\n"
            "        if x in b:\n          print c\n          if m:\n            set n\n          set m"
        )
        self.assertEqual(greatest(program), (2, "bb"))
        self.assertEqual(greatest(program, within=scattered("ab", "aab")), (2, "aabb"))
        self.assertEqual(greatest(program, letters="d"), (0, ""))
        self.assertEqual(greatest(program, letters="d", within=containing("ab", "ba")), (0, "ba"))
        self.assertEqual(greatest(program, within=exactly("ab", "aba")), (1, "aba"))
        self.assertEqual(greatest(program, within=NONE), (0, None))
        self.assertEqual(greatest(PAIRS, within=NONE), (0, None))

    def test_a_limit_can_bound_the_count(self):
        self.assertEqual(greatest(copying("ab"), within=exactly("ab", "bab")), (3, "bab"))
        self.assertEqual(greatest(copying("ab"), letters="a", within=exactly("ab", "bab")), (1, "bab"))
        first = Reader("ab", [(1, 2), (2, 1), (2, 2)], [True, True, False])
        self.assertEqual(greatest(copying("ab"), letters="a", within=first), (1, "a"))

    def test_the_rounds_of_the_error(self):
        with self.assertRaises(Unbounded) as caught:
            greatest(PAIRS, within=scattered("ab", "bab"))
        rounds = caught.exception.rounds
        self.assertEqual(len(rounds), 5)
        made = tally(PAIRS, within=scattered("ab", "bab"))
        for times in range(1, 6):
            text = "".join(word * (times if at % 2 else 1) for at, word in enumerate(rounds))
            self.assertGreaterEqual(made(text), times ** 2)
        self.assertEqual(greatest(program=Program("a", "c", [("print", "cc")]), letters=None, within=None), (2, ""))


if __name__ == "__main__":
    unittest.main()
