import random
import unittest

from tests.faults import fault
from tests.reference import random_description, texts_up_to
from tests.runs import Maker, plain_births
from tests.shapes import AFTER_A, FOUR_MARKS, PAIRS, TWO_LOOPS, Shaper
from textloops.changing import mirrored
from textloops.comparing import paired, relabelled
from textloops.joining import copying
from textloops.programs import Program
from textloops.readers import Reader
from textloops.telling import tells
from textloops.watchers import containing, counting, ending, exactly, never_behind, scattered
from textloops.writing import format_program, parse_program

NONE = Reader("ab", [(0, 0)], [False])
LENGTHS = {1: 8, 2: 6, 3: 4}


def plain_tells(program, texts):
    """The first text with the lot of one before it, together with the first one of these."""
    seen = {}
    for text in texts:
        lot = tuple(sorted(plain_births(program, text)))
        if lot in seen:
            return (seen[lot], text)
        seen[lot] = text
    return None


def cases(seed, rounds):
    for number in range(rounds):
        rng = random.Random(seed + number)
        if number % 5 < 2:
            program = Shaper(rng).two_loops() if number % 5 else Shaper(rng).four_marks()
        else:
            reads = rng.choice(["a", "ab", "ab", "abc"])
            program = Maker(rng, reads, "abc", 3, rng.randint(0, 3), 3).program(14)
        if rng.random() < 0.6:
            # Something more about each letter makes it likelier that the lot tells the text.
            inner = rng.choice([("copy", "z"), ("if", ("in", "z", program.reads[0]), [("print", "a")], [])])
            program = Program(program.reads, program.prints, [*program.block, ("for", "z", "up", [inner])])
        if number % 3 == 0:
            program = mirrored(program)
        within = None
        if rng.random() < 0.6:
            within = Reader(**random_description(rng, program.reads, [], [True, False], 4))
        yield program, within


class TellsTest(unittest.TestCase):
    def assertTells(self, program, within, length):
        got = tells(program, within=within)
        texts = [text for text in texts_up_to(program.reads, length) if within is None or within(text)]
        if got is None or len(got[1]) > length:
            self.assertIsNone(plain_tells(program, texts))
        else:
            self.assertEqual(got, plain_tells(program, texts))
        return got

    def test_random_programs(self):
        lengths = []
        for program, within in cases(9000, 200):
            got = self.assertTells(program, within, LENGTHS[len(program.reads)])
            lengths.append(-1 if got is None else len(got[1]))
        self.assertGreater(len(set(lengths)), 3)
        self.assertIn(-1, lengths)

    def test_random_programs_with_texts_that_are_longer(self):
        lengths = []
        for program, _ in cases(15000, 200):
            rng = random.Random(len(format_program(program)))
            word = "".join(rng.choice(program.reads) for _ in range(rng.randint(2, 3)))
            within = rng.choice([containing, scattered])(program.reads, word)
            got = self.assertTells(program, within, LENGTHS[len(program.reads)])
            lengths.append(-1 if got is None else len(got[1]))
        self.assertGreater(len(set(lengths)), 2)

    def test_the_order_of_the_two_texts(self):
        nothing = Program("abc", "c", [])
        for one, two in (("ab", "ba"), ("abc", "cab"), ("aca", "bab"), ("acab", "bacc"), ("c", "ab"), ("cc", "aaa")):
            both = relabelled(
                paired(exactly("abc", one), exactly("abc", two)),
                [((False, False), False), ((True, False), True), ((False, True), True)],
            )
            self.assertEqual(tells(nothing, within=both), (one, two))

    def test_pairs_that_are_kept_side_by_side(self):
        # The next letter but one decides what is printed at a place; so several places wait for their letters at once.
        later = parse_program(
            "reads ab prints cd\nfor x up:\n  mark m:\n    mark n:\n      for y up:\n        if x before y:\n"
            "          if (m and not n):\n            if y in a:\n              print c\n            else:\n              print d\n"
            "            set n\n          set m"
        )
        long_enough = Reader("ab", [(at + 1, at + 1) for at in range(4)] + [(4, 4)], [False] * 4 + [True])
        for program in (later, mirrored(later)):
            for within in (None, long_enough, containing("ab", "ab"), containing("ab", "bab")):
                self.assertTells(program, within, 7)

    def test_what_is_forgotten(self):
        until_b = parse_program("reads ab prints ab\nmark m:\n  for x up:\n    if not m:\n      copy x\n    if x in b:\n      set m")
        self.assertEqual(tells(until_b), ("b", "ba"))
        self.assertEqual(tells(until_b, within=containing("ab", "aab")), ("aab", "aaba"))
        # All letters but the first one are printed; whether this is an a is seen at a b, unless aa came before.
        first = parse_program(
            "reads ab prints abc\nmark f:\n  mark m:\n    mark n:\n      for x up:\n        if f:\n          copy x\n"
            "          if (m and x in b):\n            print c\n          if x in a:\n            if n:\n              clear m\n"
            "            set n\n          else:\n            clear n\n        else:\n          set f\n          if x in a:\n"
            "            set m"
        )
        self.assertTells(first, None, 6)
        self.assertEqual(tells(first, within=Reader("ab", [(0, 1), (0, 1)], [False, True])), ("aaab", "baab"))
        for word in ("abb", "bb", "abab"):
            self.assertTells(first, containing("ab", word), 7)
            self.assertTells(mirrored(first), containing("ab", word), 7)

    def test_the_empty_text(self):
        self.assertEqual(tells(Program("ab", "c", [])), ("", "a"))
        self.assertEqual(tells(Program("ab", "c", [("print", "c")])), ("", "a"))
        once = parse_program("reads ab prints c\nmark m:\n  for x up:\n    set m\n  if m:\n    print c")
        self.assertEqual(tells(once), ("a", "b"))
        self.assertEqual(tells(PAIRS), ("", "a"))
        lengths = Program("ab", "c", [("for", "x", "up", [("print", "c")])])
        self.assertEqual(tells(lengths), ("a", "b"))
        self.assertIsNone(tells(Program("a", "c", lengths.block)))

    def test_texts_of_different_lengths(self):
        only_a = parse_program("reads ab prints c\nfor x up:\n  if x in a:\n    print c")
        self.assertEqual(tells(only_a), ("", "b"))
        self.assertEqual(tells(only_a, within=containing("ab", "a")), ("a", "ab"))
        self.assertEqual(tells(only_a, within=scattered("ab", "bab")), ("bab", "babb"))
        last_is_a = Reader("ab", [(1, 2), (1, 2), (1, 2)], [False, True, False])
        self.assertIsNone(tells(only_a, within=last_is_a))

    def test_births_and_not_only_letters(self):
        outside = parse_program("reads ab prints c\nmark m:\n  for x up:\n    if x in a:\n      set m\n  if m:\n    print cc")
        self.assertEqual(tells(outside, within=containing("ab", "a")), ("a", "aa"))
        turned_letters = Program("ab", "abc", [("for", "x", "up", [("copy", "x"), ("print", "c")])])
        self.assertIsNone(tells(turned_letters))
        # The same letters in another order are the same lot.
        order = parse_program(
            "reads ab prints cd\nfor x up:\n  if x in a:\n    print cd\n  else:\n    print dc"
        )
        self.assertEqual(tells(order), ("a", "b"))
        twice = parse_program("reads ab prints cd\nfor x up:\n  if x in a:\n    print cdc\n  else:\n    print dc")
        self.assertIsNone(tells(twice))

    def test_the_least_text_of_those_with_the_same_lot(self):
        # Three letters look alike; the other two do not matter for the least pair.
        program = parse_program("reads abcd prints x\nfor x up:\n  if x in a:\n    print x")
        self.assertEqual(tells(program, within=Reader("abcd", [(1, 1, 2, 2), (1, 1, 1, 1), (2, 2, 3, 3), (3, 3, 3, 3)],
                                                      [False, False, False, True])), ("cc", "cd"))

    def test_what_hangs_on_letters_behind(self):
        # What is printed at a place tells whether the number of letters a behind it is even, and the letter at the end.
        program = parse_program(
            "reads ab prints cd\nmark m:\n  for x down:\n    if m:\n      print c\n    else:\n      print d\n"
            "    if x in a:\n      if m:\n        clear m\n      else:\n        set m"
        )
        self.assertEqual(tells(program), ("a", "b"))
        self.assertEqual(tells(program, within=containing("ab", "ab")), ("aab", "bab"))
        for word in ("abb", "baab", "aabb", "bbba"):
            self.assertTells(program, containing("ab", word), 7)
        end = Program("ab", "cd", [("for", "y", "up", [("if", ("in", "y", "a"), [("print", "c")], [])]), *program.block])
        self.assertIsNone(tells(end))

    def test_limits(self):
        self.assertEqual(tells(AFTER_A, within=NONE), None)
        self.assertEqual(tells(AFTER_A, within=exactly("ab", "aab")), None)
        self.assertEqual(tells(AFTER_A, within=containing("ab", "aa")), ("aaa", "aab"))
        self.assertEqual(tells(AFTER_A, within=never_behind("ab", "b", "a")), ("", "a"))
        both = Reader("ab", [(1, 2), (3, 3), (3, 2), (3, 3)], [False, True, True, False])
        self.assertEqual(tells(AFTER_A, within=both), ("a", "b"))

    def test_larger_programs(self):
        for program in (TWO_LOOPS, FOUR_MARKS):
            for made in (program, mirrored(program)):
                for within in (None, containing("ab", "ab")):
                    self.assertTells(made, within, 6)

    def test_errors(self):
        for limit in (counting("ab", "a", 2), ending("ab"), containing("a", "a"), Reader("ab", [(0, 0)], [1])):
            self.assertEqual(fault(tells, PAIRS, within=limit), ("WrongLimit",))
        self.assertIsNone(tells(program=copying("ab"), within=None))


if __name__ == "__main__":
    unittest.main()
