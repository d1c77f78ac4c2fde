import itertools
import random
import unittest

from tests.faults import fault
from tests.reference import texts_up_to
from tests.runs import Maker, plain_print
from tests.shapes import AFTER_A, PAIRS
from textloops.foretelling import foretell
from textloops.joining import behind, copying, row_of
from textloops.programs import Program
from textloops.turning import turned
from textloops.watchers import containing, counting, ending
from textloops.writing import format_program, parse_program

ROWS = [
    "reads ab prints ab\nfor x up:\n  copy x", "reads ab prints ab\nfor x down:\n  print ab\n  copy x",
    "reads ab prints ab\nmark m:\n  for x up:\n    if m:\n      copy x\n      print ba\n    if x in a:\n      set m\n"
    "    else:\n      clear m",
    "reads ab prints ab\nprint b\nfor x up:\n  for y down:\n    if (x before y and not y in a):\n      copy x\nprint aa",
    "reads ab prints ab\nfor x down:\n  mark m:\n    for y up:\n      if m:\n        copy y\n      if x at y:\n        set m",
]


class BehindTest(unittest.TestCase):
    def assertBehind(self, first, second, length):
        made = behind(first, second)
        self.assertIsInstance(made, Program)
        self.assertEqual((made.reads, made.prints), (first.reads, second.prints))
        for text in texts_up_to(first.reads, length):
            self.assertEqual(plain_print(made, text), plain_print(second, plain_print(first, text)), text)

    def test_random_programs(self):
        for seed in range(120):
            rng = random.Random(seed)
            signs = [rng.choice(["a", "ab", "ab", "abc"]) for _ in range(3)]
            first, second = [
                Maker(rng, *signs[at:at + 2], rng.randint(1, 3), rng.randint(0, 2)).program(rng.randint(3, 9))
                for at in (0, 1)
            ]
            long = max(len(plain_print(first, text)) for text in texts_up_to(first.reads, 3)) > 24
            self.assertBehind(first, second, 2 if long else 3)

    def test_pairs_of_programs(self):
        programs = [parse_program(text) for text in ROWS]
        for first, second in itertools.product(programs, repeat=2):
            self.assertBehind(first, second, 3)

    def test_ways_of_loops(self):
        for ways in itertools.product(["up", "down"], repeat=4):
            first = [("print", "ab"), ("copy", "y"), ("if", ("mark", "m"), [("copy", "x")], [("set", "m")])]
            first = [("for", "x", ways[0], [("for", "y", ways[1], first), ("print", "b")]), ("print", "a")]
            test = ("or", ("before", "y", "x"), ("and", ("same", "x", "y"), ("in", "y", "b")))
            second = [("if", test, [("if", ("mark", "x1"), [("copy", "x")], [])], [("set", "x1")]), ("print", "c")]
            second = [("for", "y", ways[2], [("mark", "x1", [("for", "x", ways[3], second)])])]
            self.assertBehind(Program("ab", "ab", [("mark", "m", first)]), Program("ab", "abc", second), 2)

    def test_tests_of_places_within_words_and_rounds(self):
        first = parse_program("reads ab prints ab\nprint aba\nfor x down:\n  print ba\n  for z up:\n    copy z\n  copy x")
        for test in ("x before y", "y before x", "x at y", "(x at y or (x before y and y in a))", "x at x", "y before y"):
            for way, other in itertools.product(["up", "down"], repeat=2):
                second = parse_program(
                    f"reads ab prints ab\nfor x {way}:\n  for y {other}:\n    if {test}:\n      copy x\n      copy y"
                )
                self.assertBehind(first, second, 2)

    def test_letters_that_the_first_program_does_not_read(self):
        first = parse_program("reads ac prints abc\nfor x up:\n  copy x\n  print b")
        for letters in ("a", "b", "c", "ab", "ac", "bc", "abc"):
            second = parse_program(f"reads abc prints abc\nfor x up:\n  if x in {letters}:\n    copy x\n  else:\n    print b")
            self.assertBehind(first, second, 3)

    def test_tests_of_which_a_part_is_known(self):
        first = parse_program("reads ab prints ab\nfor x up:\n  copy x\n  print ba")
        for word, one, two in itertools.product(["and", "or"], ["x in a", "not x in a", "x in ab"], ["y in b", "not y in b"]):
            for test in (f"({one} {word} {two})", f"({two} {word} {one})", f"not ({one} {word} {two})"):
                second = parse_program(
                    f"reads ab prints ab\nfor x up:\n  for y up:\n    if {test}:\n      copy x\n    else:\n      copy y"
                )
                self.assertBehind(first, second, 2)

    def test_programs_that_print_nothing(self):
        silent = Program("ab", "ab", [("for", "x", "up", [("mark", "m", [("set", "m")])])])
        for other in (copying("ab"), PAIRS, AFTER_A, Program("ab", "c", [("print", "c")])):
            self.assertBehind(silent, other, 3)
        self.assertBehind(copying("ab"), silent, 3)
        self.assertBehind(Program("a", "ab", []), Program("ab", "b", []), 2)

    def test_questions_about_joined_programs(self):
        double = parse_program("reads ab prints ab\nfor x up:\n  copy x\n  copy x")
        watcher = counting("c", "c", 5)
        self.assertEqual(foretell(behind(copying("ab"), PAIRS), watcher), foretell(PAIRS, watcher))
        joined = behind(double, parse_program(ROWS[2]))
        for other in (containing("ab", "bab"), ending("ab")):
            self.assertEqual(foretell(joined, other), foretell(double, foretell(parse_program(ROWS[2]), other)))

    def test_deep_programs(self):
        block = [("print", "a")]
        for _ in range(50):
            block = [("if", ("not", ("in", "x", "b")), block, [])]
        deep = Program("ab", "ab", [("for", "x", "up", [*block, ("copy", "x")])])
        made = row_of([deep, deep, deep])
        for text in ("", "ab", "ba"):
            wanted = plain_print(deep, plain_print(deep, plain_print(deep, text)))
            self.assertEqual(plain_print(made, text), wanted)
        self.assertEqual(turned(made).reads, "ab")

    def test_errors(self):
        self.assertEqual(fault(behind, PAIRS, PAIRS), ("DifferentAlphabets",))
        self.assertEqual(fault(behind, copying("abc"), PAIRS), ("DifferentAlphabets",))
        self.assertEqual(fault(behind, copying("a"), PAIRS), ("DifferentAlphabets",))
        self.assertEqual(plain_print(behind(first=copying("ab"), second=PAIRS), "aab"), "cc")


class CopyingTest(unittest.TestCase):
    def test_copying(self):
        for alphabet in ("a", "ab", "bdfxyz"):
            program = copying(alphabet)
            self.assertEqual((program.reads, program.prints), (alphabet, alphabet))
            self.assertEqual(program.block, (("for", "x", "up", (("copy", "x"),)),))
            self.assertEqual(plain_print(program, alphabet * 2), alphabet * 2)
        self.assertEqual(copying(alphabet="ab"), copying("ab"))

    def test_bad_alphabets(self):
        for alphabet in ("", "ba", "aa", "A", "abcdefg", "a b"):
            self.assertEqual(fault(copying, alphabet), ("BadAlphabet", alphabet))


class RowOfTest(unittest.TestCase):
    def test_one_program(self):
        for rows in ([PAIRS], (PAIRS,)):
            self.assertEqual(row_of(rows), PAIRS)
        self.assertEqual(format_program(row_of(programs=[AFTER_A])), format_program(AFTER_A))

    def test_several_programs(self):
        programs = [parse_program(text) for text in ROWS]
        for chosen in ([0, 2, 3], [2, 1, 2], [1, 0, 1], [4, 2, 2]):
            made = row_of([programs[at] for at in chosen])
            for text in texts_up_to("ab", 2):
                printed = text
                for at in chosen:
                    printed = plain_print(programs[at], printed)
                self.assertEqual(plain_print(made, text), printed)
        made = row_of((copying("ab"), copying("ab"), copying("ab"), PAIRS))
        for text in texts_up_to("ab", 4):
            self.assertEqual(plain_print(made, text), plain_print(PAIRS, text))

    def test_what_is_passed_stays(self):
        first, second = parse_program(ROWS[2]), parse_program(ROWS[3])
        programs = [first, second]
        row_of(programs)
        behind(first, second)
        self.assertEqual(programs, [parse_program(ROWS[2]), parse_program(ROWS[3])])

    def test_alphabets_that_do_not_fit(self):
        for rows in (
            [PAIRS, PAIRS], [copying("ab"), PAIRS, copying("ab")], [copying("ab"), copying("ab"), copying("a")],
            [copying("ab"), copying("abc"), copying("ab")],
        ):
            self.assertEqual(fault(row_of, rows), ("DifferentAlphabets",))

    def test_errors_come_before_anything_is_made(self):
        # To make the first two programs one behind the other would take far too long.
        block = [("copy", "x")]
        for name in "xyzuvw":
            block = [("for", name, "up", block * 4 if name == "x" else block)]
        large = Program("ab", "ab", block)
        self.assertEqual(fault(row_of, [large, large, large, PAIRS, PAIRS]), ("DifferentAlphabets",))


if __name__ == "__main__":
    unittest.main()
