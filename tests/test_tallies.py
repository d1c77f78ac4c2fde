import fractions
import math
import random
import unittest

from tests.faults import fault
from tests.reference import random_description, texts_of, texts_up_to
from tests.runs import plain_print
from tests.shapes import AFTER_A, FOUR_MARKS, PAIRS, TWO_LOOPS
from tests.test_reaches import cases
from textloops.joining import copying
from textloops.programs import Program
from textloops.readers import Reader
from textloops.tallies import Tally, count_parting, far_count, tally, total_count
from textloops.turning import turned
from textloops.watchers import containing, counting, ending, exactly, never_behind
from textloops.writing import parse_program

ALL = Reader("ab", [(0, 0)], [True])
NONE = Reader("ab", [(0, 0)], [False])


def counted(program, text, letters=None, within=None):
    if within is not None and not within(text):
        return 0
    return sum(letters is None or letter in letters for letter in plain_print(program, text))


def rank(rows):
    """The number of rows none of which is a combination of the ones before it."""
    kept = []
    for row in rows:
        row = [fractions.Fraction(number) for number in row]
        for pivot, other in kept:
            factor = row[pivot] / other[pivot]
            row = [one - factor * two for one, two in zip(row, other)]
        pivots = [at for at, number in enumerate(row) if number != 0]
        if pivots:
            kept.append((pivots[0], row))
    return len(kept)


def settings(seed, rounds):
    for rng, program in cases(seed, rounds):
        limit = Reader(**random_description(rng, program.reads, [], [True, False], 3))
        some = "".join(letter for letter in program.prints if rng.random() < 0.5)
        yield program, rng.choice([None, some or None, program.prints]), rng.choice([None, limit, None])


class TallyTest(unittest.TestCase):
    def assertTally(self, made, alphabet, count):
        """The tally is that of the function `count`, as far as texts of some length tell."""
        length = 4 if len(alphabet) < 3 else 3
        self.assertEqual(made.alphabet, alphabet)
        for text in texts_up_to(alphabet, length):
            self.assertEqual(made(text), count(text), text)
        for text, end in zip(made.basis, made.ends):
            self.assertEqual(end, count(text))
            self.assertIs(type(end), int)
        self.assertEqual([len(made.ends), len(made.steps)], [len(made.basis)] * 2)
        for row in made.steps:
            self.assertEqual(len(row), len(alphabet))
            for factors in row:
                self.assertEqual(len(factors), len(made.basis))
                for top, bottom in factors:
                    self.assertTrue(bottom >= 1 and math.gcd(top, bottom) == 1, (top, bottom))

    def assertBasis(self, made, alphabet):
        """The basis has just the texts behind which the count is no combination of those behind the texts before."""
        ends = texts_up_to(alphabet, 5 if len(alphabet) < 3 else 4) + list(made.basis)
        rows = []
        basis = []
        for text in texts_up_to(alphabet, max([len(text) for text in made.basis], default=0) + 1):
            row = [made(text + end) for end in ends]
            if rank(rows + [row]) > len(rows):
                rows.append(row)
                basis.append(text)
        self.assertEqual(tuple(basis), made.basis)
        for index, text in enumerate(made.basis):
            for letter, factors in zip(alphabet, made.steps[index]):
                for at, end in enumerate(ends):
                    total = sum(fractions.Fraction(*pair) * row[at] for pair, row in zip(factors, rows))
                    self.assertEqual(made(text + letter + end), total)

    def test_random_programs(self):
        sizes = []
        for program, letters, within in settings(6000, 60):
            made = tally(program, letters=letters, within=within)
            self.assertTally(made, program.reads, lambda text: counted(program, text, letters, within))
            sizes.append(len(made.basis))
            if len(made.basis) <= 6:
                self.assertBasis(made, program.reads)
        self.assertLess(5, max(sizes))

    def test_a_known_tally(self):
        made = tally(PAIRS)
        self.assertIsInstance(made, Tally)
        self.assertEqual(made.alphabet, "ab")
        self.assertEqual(made.basis, ("", "a", "ab"))
        self.assertEqual(made.ends, (0, 0, 1))
        numbers = [((0, 1, 0), (1, 0, 0)), ((-1, 2, 0), (0, 0, 1)), ((-1, 1, 1), (0, -1, 2))]
        steps = [tuple(tuple((top, 1) for top in factors) for factors in row) for row in numbers]
        self.assertEqual(made.steps, tuple(steps))

    def test_factors_that_are_no_whole_numbers(self):
        program = parse_program(
            "reads ab prints c\nfor x up:\n  print cc\n  mark m:\n    for y up:\n      if (y before x and y in b):\n        set m\n"
            "    if m:\n      print c"
        )
        made = tally(program)
        self.assertTally(made, "ab", lambda text: counted(program, text))
        self.assertBasis(made, "ab")
        bottoms = {bottom for row in made.steps for factors in row for _, bottom in factors}
        self.assertNotEqual(bottoms, {1})
        self.assertEqual(far_count(made, [("a", 10 ** 40), ("ba", 10 ** 40)]), 2 * 3 * 10 ** 40 + 2 * 10 ** 40 - 1)

    def test_the_empty_basis(self):
        for made in (
            tally(Program("ab", "c", [])), tally(copying("ab"), within=NONE), tally(PAIRS, within=exactly("ab", "bba")),
            tally(Program("ab", "cd", [("print", "c")]), letters="d"),
        ):
            self.assertEqual((made.basis, made.steps, made.ends), ((), (), ()))
            self.assertEqual([made(""), made("abab"), far_count(made, [("ab", 10 ** 40)]), total_count(made, 7)], [0] * 4)
            self.assertEqual(fault(far_count, made, [("c", 0)]), ("BadText", "c", 0))

    def test_counts_outside_of_loops(self):
        made = tally(Program("ab", "cd", [("print", "ccd")]))
        self.assertEqual((made.basis, made.ends, made.steps), (("",), (3,), ((((1, 1),), ((1, 1),)),)))
        self.assertEqual(tally(Program("ab", "cd", [("print", "ccd")]), letters="c").ends, (2,))
        self.assertEqual(total_count(made, 10), 3 * 2 ** 10)

    def test_letters_and_limits(self):
        program = parse_program("reads ab prints abc\nfor x up:\n  copy x\n  print ca\n  if x in b:\n    print bb")
        limit = containing("ab", "bb")
        for letters in (None, "a", "b", "c", "ab", "ac", "bc", "abc"):
            for within in (None, limit, ALL, NONE):
                made = tally(program, letters=letters, within=within)
                self.assertTally(made, "ab", lambda text: counted(program, text, letters, within))
        self.assertEqual(tally(program, letters="abc", within=ALL), tally(program))

    def test_equality(self):
        self.assertEqual(tally(PAIRS), tally(turned(PAIRS)))
        self.assertEqual(tally(copying("ab")), tally(turned(copying("ab"))))
        self.assertFalse(tally(PAIRS) == tally(copying("ab")))
        self.assertFalse(tally(copying("a")) == tally(copying("b")))
        self.assertFalse(tally(Program("a", "c", [])) == tally(Program("b", "c", [])))
        self.assertFalse(tally(PAIRS) == (tally(PAIRS).basis,))
        self.assertFalse(tally(PAIRS) == PAIRS)
        made = tally(PAIRS)
        self.assertFalse(made == tally(Program("ab", "c", [("print", "c")])))

    def test_a_long_text(self):
        self.assertEqual(tally(PAIRS)(text="ab" * 200), 200 * 201 // 2)
        self.assertEqual(tally(TWO_LOOPS)("ab" * 5), counted(TWO_LOOPS, "ab" * 5))

    def test_errors(self):
        for letters in ("", "ba", "aa", "c", "abc", "A"):
            for within in (None, ending("ab"), exactly("abc", "a")):
                self.assertEqual(fault(tally, copying("ab"), letters=letters, within=within), ("BadLetters", letters))
        for within in (ending("ab"), exactly("abc", "a"), counting("ab", "a", 3)):
            for letters in (None, "a", "ab"):
                self.assertEqual(fault(tally, copying("ab"), letters=letters, within=within), ("WrongLimit",))
        self.assertEqual(fault(tally(PAIRS), "abd"), ("BadText", "abd", 2))
        self.assertEqual(tally(program=AFTER_A)("aab"), 2)


class FarCountTest(unittest.TestCase):
    def test_against_the_tally(self):
        for number, (program, letters, within) in enumerate(settings(7000, 40)):
            rng = random.Random(number)
            made = tally(program, letters=letters, within=within)
            for _ in range(6):
                pieces = []
                for _ in range(rng.randint(0, 4)):
                    word = "".join(rng.choice(program.reads) for _ in range(rng.randint(0, 3)))
                    pieces.append((word, rng.choice([0, 1, 2, 3, 11, 40])))
                text = "".join(word * times for word, times in pieces)
                self.assertEqual(far_count(made, pieces), made(text))

    def test_large_numbers_of_times(self):
        for many in (10 ** 15, 10 ** 40, 10 ** 40 - 1):
            self.assertEqual(far_count(tally(PAIRS), [("ab", many)]), many * (many + 1) // 2)
            self.assertEqual(far_count(tally(PAIRS), [["a", many], ["", many], ["b", many]]), many * many)
            self.assertEqual(far_count(tally(AFTER_A), [("b", many), ("a", 1), ("bba", many)]), 3 * many)
            self.assertEqual(far_count(tally(copying("ab"), letters="b"), [("ab", many), ("b", many)]), 2 * many)
            rows = tally(parse_program("reads a prints c\nfor x up:\n  for y up:\n    for z down:\n      print cc"))
            self.assertEqual(far_count(rows, [("a", many)]), 2 * many ** 3)
            self.assertEqual(far_count(tally(FOUR_MARKS), [("a", many)]), many // 16)

    def test_limits(self):
        even = Reader("ab", [(1, 1), (0, 0)], [True, False])
        made = tally(copying("ab"), within=even)
        for many in (10 ** 40, 10 ** 40 + 1):
            self.assertEqual(far_count(made, [("ab", 3), ("b", many)]), 0 if many % 2 else many + 6)

    def test_no_pieces(self):
        made = tally(Program("ab", "c", [("print", "cc")]))
        for pieces in ([], (), [("", 0)], [("", 10 ** 40)], [("ab", 0)]):
            self.assertEqual(far_count(made, pieces), 2)
            self.assertEqual(far_count(tally=tally(copying("ab")), pieces=pieces), 0)

    def test_what_is_passed_stays(self):
        pieces = [["ab", 3], ["", 2], ["b", 10 ** 20]]
        far_count(tally(PAIRS), pieces)
        self.assertEqual(pieces, [["ab", 3], ["", 2], ["b", 10 ** 20]])

    def test_errors(self):
        made = tally(PAIRS)
        for pieces, wanted in [
            ([("abc", 1)], ("abc", 2)), ([("ab", 1), ("ac", 0), ("d", 4)], ("ac", 1)), ([("", 0), ["A", 0]], ("A", 0)),
        ]:
            self.assertEqual(fault(far_count, made, pieces), ("BadText", *wanted))


class TotalCountTest(unittest.TestCase):
    def test_against_single_texts(self):
        for program, letters, within in settings(8000, 30):
            made = tally(program, letters=letters, within=within)
            for length in range(5 if len(program.reads) < 3 else 4):
                wanted = sum(counted(program, text, letters, within) for text in texts_of(program.reads, length))
                self.assertEqual(total_count(made, length), wanted)

    def test_long_texts(self):
        made = tally(PAIRS)
        for length in (0, 1, 2, 100, 500):
            self.assertEqual(total_count(made, length), length * (length - 1) * 2 ** length // 8)
        self.assertEqual(total_count(tally=tally(copying("abc"), letters="b"), length=500), 500 * 3 ** 499)


class CountPartingTest(unittest.TestCase):
    def test_against_a_search(self):
        made = []
        for program, letters, within in settings(9000, 60):
            if program.reads == "ab":
                made.append(tally(program, letters=letters, within=within))
        for one in made:
            for two in made[:12]:
                wanted = [text for text in texts_up_to("ab", 5) if one(text) != two(text)]
                got = count_parting(one, two)
                if wanted:
                    self.assertEqual(got, wanted[0])
                else:
                    self.assertTrue(got is None or len(got) > 5)
                    self.assertEqual(got is None, one == two)

    def test_equal_counts(self):
        self.assertIsNone(count_parting(tally(PAIRS), tally(turned(PAIRS))))
        self.assertIsNone(count_parting(tally(Program("a", "c", [])), tally(copying("a"), within=exactly("a", ""))))

    def test_a_far_text(self):
        one = tally(copying("ab"), within=exactly("ab", "ab" * 12))
        self.assertEqual(count_parting(one, tally(copying("ab"), within=NONE)), "ab" * 12)
        letters_b = tally(FOUR_MARKS, letters="b")
        self.assertEqual(count_parting(letters_b, tally(FOUR_MARKS, within=NONE)), "a" * 8 + "b")
        only_a = never_behind("ab", "a", "b")
        self.assertEqual(count_parting(tally(FOUR_MARKS, within=only_a), tally(FOUR_MARKS, within=NONE)), "a" * 16)
        self.assertEqual(count_parting(tally(copying("ab"), letters="b"), tally(copying("ab"))), "a")

    def test_the_empty_text(self):
        one = tally(Program("ab", "c", [("print", "c")]))
        self.assertEqual(count_parting(one=one, two=tally(PAIRS)), "")

    def test_other_alphabets(self):
        for other in (copying("a"), copying("abc"), Program("c", "ab", [])):
            self.assertEqual(fault(count_parting, tally(PAIRS), tally(other)), ("DifferentAlphabets",))
        self.assertEqual(fault(count_parting, tally(copying("a")), tally(copying("b"))), ("DifferentAlphabets",))


if __name__ == "__main__":
    unittest.main()
