import random
import unittest
from collections import Counter

from tests.faults import fault
from tests.reference import random_description, texts_up_to
from tests.runs import Maker, plain_births, plain_print
from tests.shapes import AFTER_A, PAIRS, Shaper
from tests.variants import variant
from textloops.alike import same_letters, same_lot, same_row
from textloops.joining import behind, copying
from textloops.programs import Program
from textloops.readers import Reader
from textloops.turning import turned
from textloops.watchers import containing, counting, exactly
from textloops.writing import parse_program

NONE = Reader("ab", [(0, 0)], [False])


def pairs_of_programs(seed, rounds):
    """Random programs with others that are nearly the same."""
    for number in range(rounds):
        rng = random.Random(seed + number)
        if number % 3 == 0:
            program = Shaper(rng).two_loops()
        else:
            reads = rng.choice(["a", "ab", "ab", "abc"])
            program = Maker(rng, reads, rng.choice(["c", "ab", "abc"]), 3, rng.randint(0, 2), 3).program(12)
        yield rng, program, rng.choice([variant(rng, program), variant(rng, program, 0.1), turned(program)])


def plain_same_lot(one, two, texts):
    for text in texts:
        counts = Counter(plain_births(one, text))
        counts.subtract(Counter(plain_births(two, text)))
        births = [birth for (_, birth), count in counts.items() if count]
        if births:
            return (text, min(births))
    return None


def plain_same_row(one, two, texts):
    for text in texts:
        first, second = plain_births(one, text), plain_births(two, text)
        if first != second:
            both = zip(first, second)
            return (text, next((at for at, (p, q) in enumerate(both) if p != q), min(len(first), len(second))))
    return None


def plain_same_letters(one, two, texts):
    for text in texts:
        first, second = Counter(plain_print(one, text)), Counter(plain_print(two, text))
        if first != second:
            return (text, min(letter for letter in one.prints if first[letter] != second[letter]))
    return None


PLAIN = ((same_lot, plain_same_lot), (same_row, plain_same_row), (same_letters, plain_same_letters))


class RandomTest(unittest.TestCase):
    def assertSame(self, one, two, within, length):
        texts = [text for text in texts_up_to(one.reads, length) if within is None or within(text)]
        found = []
        for asked, plain in PLAIN:
            got = asked(one, two, within=within)
            if got is None or len(got[0]) <= length:
                self.assertEqual(got, plain(one, two, texts))
            else:
                self.assertIsNone(plain(one, two, texts))
                self.assertEqual(plain(one, two, [got[0]]), got)
            found.append(got is None)
        return found

    def test_programs_that_are_nearly_the_same(self):
        found = []
        for rng, one, two in pairs_of_programs(7000, 100):
            length = {1: 6, 2: 4, 3: 3}[len(one.reads)]
            limit = Reader(**random_description(rng, one.reads, [], [True, False], 3))
            found.append(self.assertSame(one, two, None, length))
            self.assertSame(two, one, limit, length)
        for at in range(3):
            self.assertEqual({same[at] for same in found}, {True, False})


def program_of(block, prints="c", reads="ab"):
    return Program(reads, prints, block)


def two_loops(outer, inner, block, ways=("up", "up")):
    return program_of([("for", outer, ways[0], [("for", inner, ways[1], block)])])


PRINT_C = [("print", "c")]


class LotTest(unittest.TestCase):
    def test_loops_exchanged_and_turned_round(self):
        one = two_loops("x", "y", PRINT_C)
        for ways in (("up", "up"), ("up", "down"), ("down", "down")):
            for names in ("xy", "yx"):
                self.assertIsNone(same_lot(one, two_loops(*names, PRINT_C, ways)))
        self.assertEqual(same_lot(one, two_loops("x", "z", PRINT_C)), ("a", (("x", 0), ("y", 0))))

    def test_the_first_birth(self):
        one = program_of([("print", "c"), ("for", "y", "up", PRINT_C), ("for", "x", "up", [])])
        self.assertEqual(same_lot(one, program_of([("for", "y", "up", PRINT_C)])), ("", ()))
        self.assertEqual(same_lot(one, program_of(PRINT_C)), ("a", (("y", 0),)))
        both = program_of([("print", "c"), ("for", "y", "up", []), ("for", "x", "up", PRINT_C)])
        self.assertEqual(same_lot(one, both), ("a", (("x", 0),)))
        inner = program_of([("for", "y", "up", PRINT_C), ("print", "c"), ("for", "x", "up", [("for", "z", "up", PRINT_C)])])
        self.assertEqual(same_lot(one, inner), ("a", (("x", 0), ("z", 0))))
        last = parse_program(
            "reads ab prints c\nprint c\nfor y up:\n  mark m:\n    for x up:\n      if y before x:\n        set m\n"
            "    if (m or y in a):\n      print c"
        )
        self.assertEqual(same_lot(one, last), ("b", (("y", 0),)))
        self.assertEqual(same_lot(one, last, within=containing("ab", "bb")), ("bb", (("y", 1),)))

    def test_other_letters_of_the_text(self):
        one, two = [
            program_of([("for", "x", "up", [("if", ("in", "x", letters), PRINT_C, [])])], reads="abc")
            for letters in ("ab", "ac")
        ]
        self.assertEqual(same_lot(one, two), ("b", (("x", 0),)))
        self.assertEqual(same_row(one, two), ("b", 0))
        self.assertEqual(same_letters(one, two), ("b", "c"))
        self.assertEqual(same_letters(one, two, within=containing("abc", "bc")), ("bbc", "c"))

    def test_letters_of_one_birth(self):
        one = program_of([("for", "x", "up", [("print", "cd"), ("print", "d")])], "cde")
        self.assertIsNone(same_lot(one, program_of([("for", "x", "down", [("print", "ddc")])], "cde")))
        self.assertEqual(same_lot(one, program_of([("for", "x", "up", [("print", "dcc")])], "cde")), ("a", (("x", 0),)))
        self.assertEqual(same_lot(one, program_of([("for", "x", "up", [("print", "cdde")])], "cde")), ("a", (("x", 0),)))

    def test_limits(self):
        one = copying("ab")
        two = program_of([("for", "x", "up", [("if", ("in", "x", "a"), [("print", "a")], [])])], "ab")
        self.assertEqual(same_lot(one, two), ("b", (("x", 0),)))
        self.assertEqual(same_lot(one, two, within=containing("ab", "aab")), ("aab", (("x", 2),)))
        for asked in (same_lot, same_row, same_letters):
            self.assertIsNone(asked(one, two, within=Reader("ab", [(0, 1), (1, 1)], [True, False])))
            self.assertIsNone(asked(one, two, within=NONE))

    def test_far_differences(self):
        # Four marks count letters: the programs differ first when sixteen of them have been read.
        block = [("if", ("not", ("mark", "m")), [("set", "m")], [("clear", "m")])]
        for name in "nkl":
            block = [
                ("if", ("not", ("mark", name)), [("set", name)], [("clear", name), *block])
            ]
        inner = [("if", ("and", ("not", ("mark", "m")), ("mark", "i")), PRINT_C, []), *block]
        inner.append(("if", ("mark", "m"), [("set", "i")], []))
        whole = [("for", "x", "up", inner)]
        for name in "mnkli":
            whole = [("mark", name, whole)]
        one, two = program_of(whole, reads="a"), program_of([("for", "x", "up", [])], reads="a")
        self.assertEqual(same_lot(one, two), ("a" * 17, (("x", 16),)))
        self.assertEqual(same_row(one, two), ("a" * 17, 0))
        self.assertEqual(same_letters(one, two), ("a" * 17, "c"))


class RowTest(unittest.TestCase):
    def test_order_of_births(self):
        one = two_loops("x", "y", PRINT_C)
        self.assertIsNone(same_row(one, two_loops("x", "y", [("print", "c")])))
        self.assertEqual(same_row(one, two_loops("x", "y", PRINT_C, ("up", "down"))), ("aa", 0))
        self.assertEqual(same_row(one, two_loops("x", "y", PRINT_C, ("down", "up"))), ("aa", 0))
        self.assertEqual(same_row(one, two_loops("y", "x", PRINT_C)), ("aa", 1))
        self.assertEqual(same_row(two_loops("x", "y", PRINT_C, ("up", "down")), two_loops("y", "x", PRINT_C)), ("aa", 0))

    def test_loops_exchanged_where_few_letters_are_printed(self):
        same = [("if", ("same", "x", "y"), PRINT_C, [])]
        self.assertIsNone(same_row(two_loops("x", "y", same), two_loops("y", "x", same, ("up", "down"))))
        self.assertEqual(same_row(two_loops("x", "y", same), two_loops("y", "x", same, ("down", "up"))), ("aa", 0))
        first = [("if", ("and", ("in", "x", "a"), ("in", "y", "b")), PRINT_C, [])]
        one, two = two_loops("x", "y", first), two_loops("y", "x", first)
        self.assertEqual(same_row(one, two), ("aabb", 1))
        self.assertIsNone(same_row(one, two, within=Reader("ab", [(0, 1), (2, 2), (2, 2)], [True, True, False])))

    def test_births_with_some_names_in_common(self):
        def around(way):
            first = ("for", "x", "up", [("if", ("in", "y", "a"), PRINT_C, [])])
            second = ("for", "z", "up", [("if", ("and", ("in", "y", "b"), ("before", "z", "y")), PRINT_C, [])])
            return program_of([("for", "y", way, [first, second])])
        self.assertEqual(same_row(around("up"), around("down"), within=exactly("ab", "ab")), ("ab", 0))
        self.assertIsNone(same_row(around("up"), around("down"), within=exactly("ab", "ba")))
        self.assertEqual(same_row(around("up"), around("down")), ("aa", 0))

    def test_rows_that_begin_other_ones(self):
        one, two = program_of([("print", "cc")]), program_of([("print", "ccc")])
        self.assertEqual([same_row(one, two), same_row(two, one)], [("", 2), ("", 2)])
        late = program_of([("print", "c"), ("for", "x", "up", PRINT_C)])
        self.assertEqual(same_row(program_of(PRINT_C), late), ("a", 1))

    def test_where_an_inner_loop_stands(self):
        inner = ("for", "y", "up", PRINT_C)
        behind_it = program_of([("for", "x", "up", [inner, ("print", "c")])])
        before_it = program_of([("for", "x", "up", [("print", "c"), inner])])
        self.assertIsNone(same_lot(behind_it, before_it))
        self.assertEqual(same_row(behind_it, before_it), ("a", 0))
        between = program_of([("for", "x", "up", [("print", "c"), inner, ("print", "c")])])
        twice = program_of([("for", "x", "up", [("print", "cc"), inner])])
        self.assertEqual(same_row(between, twice), ("a", 1))
        nothing = ("for", "y", "up", [("if", ("in", "y", "b"), PRINT_C, [])])
        one = program_of([("for", "x", "up", [("print", "c"), nothing])])
        two = program_of([("for", "x", "up", [nothing, ("print", "c")])])
        self.assertEqual(same_row(one, two), ("b", 0))
        self.assertIsNone(same_row(one, two, within=exactly("ab", "aaa")))

    def test_loops_beside_one_another(self):
        loops = [("for", "x", "up", PRINT_C), ("for", "y", "up", PRINT_C)]
        self.assertEqual(same_row(program_of(loops), program_of(loops[::-1])), ("a", 0))
        one, two = [program_of([("for", "z", "up", row)]) for row in (loops, loops[::-1])]
        self.assertEqual(same_row(one, two), ("a", 0))
        chosen = [("if", ("in", "z", "a"), [loops[0]], [loops[1]])]
        other = [("if", ("in", "z", "b"), [loops[1]], [loops[0]])]
        self.assertIsNone(same_row(program_of([("for", "z", "up", chosen)]), program_of([("for", "z", "up", other)])))

    def test_names_that_one_program_has_alone(self):
        self.assertEqual(same_row(copying("ab"), program_of([("for", "y", "up", [("copy", "y")])], "ab")), ("a", 0))
        self.assertIsNone(same_row(program_of([("for", "x", "up", [])]), program_of([("mark", "m", [])])))


class LettersTest(unittest.TestCase):
    def test_rearranged_letters(self):
        self.assertIsNone(same_letters(copying("ab"), turned(copying("ab"))))
        self.assertEqual(same_letters(copying("ab"), behind(copying("ab"), turned(copying("ab")))), None)
        count = parse_program("reads ab prints ab\nfor y up:\n  if y in a:\n    print a\nfor z up:\n  if z in b:\n    print b")
        self.assertIsNone(same_letters(copying("ab"), count))
        self.assertEqual(same_lot(copying("ab"), count), ("a", (("x", 0),)))

    def test_the_first_letter(self):
        one = program_of([("for", "x", "up", [("print", "bd")])], "abcd")
        self.assertEqual(same_letters(one, program_of([("for", "x", "up", [("print", "cd")])], "abcd")), ("a", "b"))
        self.assertEqual(same_letters(one, program_of([("for", "x", "up", [("print", "bc")])], "abcd")), ("a", "c"))
        both = program_of([("for", "x", "up", [("if", ("in", "x", "a"), [("print", "bd")], [("print", "b")])])], "abcd")
        self.assertEqual(same_letters(one, both), ("b", "d"))

    def test_counts_that_differ_late(self):
        squares = two_loops("x", "y", PRINT_C)
        lines = program_of([("for", "x", "up", [("print", "ccc")])])
        self.assertEqual(same_letters(squares, lines), ("a", "c"))
        more = program_of([("print", "c"), ("for", "x", "up", [("for", "y", "up", PRINT_C)])])
        self.assertEqual(same_letters(squares, more), ("", "c"))
        self.assertEqual(same_letters(PAIRS, AFTER_A), ("aa", "c"))
        self.assertEqual(same_letters(PAIRS, AFTER_A, within=containing("ab", "bb")), ("aabb", "c"))


class ErrorTest(unittest.TestCase):
    def test_errors(self):
        limit = counting("ab", "a", 2)
        for asked in (same_lot, same_row, same_letters):
            self.assertEqual(fault(asked, copying("ab"), copying("abc")), ("DifferentAlphabets",))
            self.assertEqual(fault(asked, copying("ab"), PAIRS), ("DifferentAlphabets",))
            self.assertEqual(fault(asked, copying("ab"), copying("a"), within=limit), ("DifferentAlphabets",))
            self.assertEqual(fault(asked, PAIRS, AFTER_A, within=limit), ("WrongLimit",))
            self.assertEqual(fault(asked, PAIRS, AFTER_A, within=containing("a", "a")), ("WrongLimit",))
            self.assertIsNone(asked(one=PAIRS, two=PAIRS, within=None))


if __name__ == "__main__":
    unittest.main()
