import random
import unittest

from tests.faults import fault
from tests.reference import texts_up_to
from tests.runs import Maker, plain_births, plain_print, statements_of
from tests.shapes import AFTER_A, FOUR_MARKS, PAIRS, TWO_LOOPS, Shaper
from textloops.alike import same_lot, same_row
from textloops.changing import beside, mirrored, recoded, renamed
from textloops.joining import behind, copying
from textloops.programs import Program
from textloops.running import births, run
from textloops.turning import turned
from textloops.writing import format_program, parse_program

LENGTHS = {1: 6, 2: 4, 3: 3}


def cases(seed, rounds):
    for number in range(rounds):
        rng = random.Random(seed + number)
        if number % 3 == 0:
            yield rng, Shaper(rng).two_loops()
        else:
            reads = rng.choice(["a", "ab", "abc"])
            yield rng, Maker(rng, reads, rng.choice(["c", "ab", "abc"]), 3, 3, 3).program(rng.randint(2, 14))


def texts_for(program):
    return texts_up_to(program.reads, LENGTHS[len(program.reads)])


def names_in(program):
    return [statement[1] for statement in statements_of(program.block) if statement[0] in ("for", "mark")]


class MirroredTest(unittest.TestCase):
    def test_births_of_reversed_texts(self):
        for _, program in cases(100, 90):
            block = program.block
            made = mirrored(program)
            for text in texts_for(program):
                wanted = tuple(
                    (letter, tuple((name, len(text) - 1 - place) for name, place in birth))
                    for letter, birth in plain_births(program, text[::-1])
                )
                self.assertEqual(plain_births(made, text), wanted)
            self.assertEqual(mirrored(made), program)
            self.assertIs(program.block, block)

    def test_what_is_replaced(self):
        text = (
            "reads ab prints c\nfor x up:\n  mark m:\n    for y down:\n      if not (x before y or (y in a and x at y)):\n"
            "        print cc\n      else:\n        if m:\n          clear m"
        )
        wanted = text.replace("x up", "x down").replace("y down", "y up").replace("x before y", "y before x")
        self.assertEqual(format_program(mirrored(parse_program(text))), wanted)
        self.assertEqual(mirrored(program=Program("a", "a", [])), Program("a", "a", []))


class RenamedTest(unittest.TestCase):
    def test_random_names(self):
        for rng, program in cases(300, 90):
            names = names_in(program)
            chosen = [name for name in names if rng.random() < 0.7]
            others = rng.choice([chosen[1:] + chosen[:1], [f"new{at}" for at, _ in enumerate(chosen)]])
            new = dict(zip(chosen, others))
            made = renamed(program, [list(pair) for pair in zip(chosen, others)])
            for text in texts_for(program):
                wanted = tuple(
                    (letter, tuple(sorted((new.get(name, name), place) for name, place in birth)))
                    for letter, birth in plain_births(program, text)
                )
                self.assertEqual(plain_births(made, text), wanted)
            self.assertEqual([entry[0] for entry in made.spots], [entry[0] for entry in program.spots])
            self.assertEqual(renamed(made, list(zip(others, chosen))), program)
            self.assertEqual(names_in(program), names)

    def test_names_in_a_circle_and_in_tests(self):
        text = (
            "reads ab prints ab\nfor x up:\n  mark y:\n    for z down:\n      if (y or (x before z and not (z at x or x in b))):\n"
            "        set y\n        clear y\n        copy z\n        copy x"
        )
        wanted = (
            "reads ab prints ab\nfor y up:\n  mark z:\n    for x down:\n      if (z or (y before x and not (x at y or y in b))):\n"
            "        set z\n        clear z\n        copy x\n        copy y"
        )
        pairs = [("x", "y"), ("y", "z"), ("z", "x")]
        self.assertEqual(format_program(renamed(parse_program(text), pairs)), wanted)
        self.assertEqual(renamed(PAIRS, [("x", "x")]), PAIRS)
        self.assertEqual(renamed(program=PAIRS, pairs=()), PAIRS)

    def test_errors(self):
        for pairs, wanted in (
            ([("y", "x"), ("q", "1"), ("r", "z")], ("UnknownName", "q")),
            ([("y", "z"), ("y", "z"), ("z", "y")], ("UnknownName", "z")),
            ([("y", "z"), ("x", "1"), ("y", "z"), ("x", "z")], ("DoubleName", "y")),
            ([("y", "x")], ("DoubleName", "x")),
            ([("x", "y")], ("DoubleName", "y")),
            ([("x", "z"), ("y", "z")], ("DoubleName", "z")),
            ([("y", "up")], ("BadName", "up")),
            ([("y", "2"), ("x", "a" * 21)], ("BadName", "a" * 21)),
            ([("y", "2"), ("x", "y")], ("BadName", "2")),
        ):
            self.assertEqual(fault(renamed, PAIRS, pairs), wanted)


class BesideTest(unittest.TestCase):
    def test_births_one_behind_the_other(self):
        for rng, program in cases(500, 60):
            names = names_in(program)
            other = renamed(mirrored(program), [(name, f"k{at}") for at, name in enumerate(names)])
            made = beside(program, other)
            self.assertEqual(made.block, program.block + other.block)
            for text in texts_for(program):
                self.assertEqual(plain_births(made, text), plain_births(program, text) + plain_births(other, text))

    def test_errors(self):
        self.assertEqual(fault(beside, copying("ab"), copying("abc")), ("DifferentAlphabets",))
        self.assertEqual(fault(beside, PAIRS, Program("ab", "cd", [("for", "x", "up", [])])), ("DifferentAlphabets",))
        self.assertEqual(fault(beside, PAIRS, AFTER_A), ("DoubleName", "x"))
        two = Program("ab", "c", [("mark", "z", []), ("for", "q", "up", [("mark", "y", []), ("for", "x", "up", [])])])
        self.assertEqual(fault(beside, PAIRS, two), ("DoubleName", "y"))
        self.assertEqual(beside(one=Program("ab", "c", []), two=PAIRS), PAIRS)


class RecodedTest(unittest.TestCase):
    def test_random_words(self):
        for rng, program in cases(700, 120):
            prints = rng.choice(["a", "bc", "abc", program.prints])
            words = []
            for letter in rng.sample("abcdef", 6) + ["a", "c"]:
                words.append([letter, "".join(rng.choice(prints) for _ in range(rng.choice([0, 1, 1, 2, 3])))])
            first = {}
            for letter, word in words:
                first.setdefault(letter, word)
            block = program.block
            made = recoded(program, words, prints=prints)
            self.assertEqual((made.reads, made.prints), (program.reads, prints))
            for text in texts_for(program):
                wanted = tuple(
                    (sign, birth) for letter, birth in plain_births(program, text) for sign in first[letter]
                )
                self.assertEqual(plain_births(made, text), wanted)
            self.assertIs(program.block, block)

    def test_copies(self):
        words = [("a", "x"), ("b", ""), ("c", "x"), ("a", "y")]
        made = recoded(copying("abc"), words, prints="xy")
        self.assertEqual(run(made, "abcb"), "xx")
        self.assertEqual(run(recoded(copying("abc"), [(letter, "xy") for letter in "abc"], prints="xy"), "cb"), "xyxy")
        nothing = recoded(copying("abc"), [(letter, "") for letter in "cba"], prints="x")
        self.assertEqual([run(nothing, "abc"), nothing.prints], ["", "x"])

    def test_errors(self):
        words = [("a", "x"), ("b", "xq"), ("b", "x"), ("z", "w")]
        self.assertEqual(fault(recoded, copying("abc"), words, prints="xx"), ("BadAlphabet", "xx"))
        self.assertEqual(fault(recoded, copying("abc"), words, prints=""), ("BadAlphabet", ""))
        self.assertEqual(fault(recoded, copying("abcd"), words, prints="x"), ("MissingLetter", "c"))
        self.assertEqual(fault(recoded, copying("ab"), words, prints="x"), ("BadText", "xq", 1))
        self.assertEqual(fault(recoded, copying("ab"), words, prints="qx"), ("BadText", "w", 0))
        self.assertEqual(fault(recoded, Program("a", "b", []), [], prints="x"), ("MissingLetter", "b"))
        self.assertEqual(fault(recoded, PAIRS, [("c", "d"), ("c", "xd")], prints="d"), ("BadText", "xd", 0))
        made = recoded(program=PAIRS, words=(("c", "ca"),), prints="ac")
        self.assertEqual(births(made, "ab"), (("c", (("x", 1), ("y", 0))), ("a", (("x", 1), ("y", 0)))))


class TogetherTest(unittest.TestCase):
    def test_made_programs_are_turned_and_put_behind_others(self):
        recode = [("a", "ab"), ("b", "")]
        for _, program in cases(900, 30):
            if program.prints != "ab" or program.reads != "ab":
                continue
            coded = recoded(copying("ab"), recode, prints="ab")
            whole = behind(mirrored(program), coded)
            for text in texts_up_to("ab", 3):
                printed = plain_print(mirrored(program), text)
                self.assertEqual(plain_print(whole, text), "".join(dict(recode)[letter] for letter in printed))
                turned_births = plain_births(turned(mirrored(program)), text)
                self.assertEqual(turned_births, plain_births(mirrored(program), text)[::-1])
            self.assertEqual(plain_print(whole, "aba"), plain_print(recoded(mirrored(program), recode, prints="ab"), "aba"))

    def test_mirroring_and_turning_a_copy(self):
        self.assertIsNone(same_row(turned(copying("ab")), mirrored(copying("ab"))))
        for program in (TWO_LOOPS, FOUR_MARKS):
            self.assertIsNone(same_row(mirrored(mirrored(program)), program))
            self.assertIsNone(same_row(turned(mirrored(program)), mirrored(turned(program))))
            self.assertIsNone(same_lot(turned(program), program))


if __name__ == "__main__":
    unittest.main()
