import random
import unittest

from tests.faults import fault
from tests.reference import random_description, texts_up_to
from tests.runs import Maker, PlainRun, plain_births, plain_print
from tests.shapes import AFTER_A, PAIRS, Shaper
from textloops.alike import same_row
from textloops.foretelling import foretell
from textloops.joining import behind, copying
from textloops.programs import Program
from textloops.reading import guarded, reading
from textloops.readers import Reader
from textloops.trimming import struck
from textloops.turning import turned
from textloops.watchers import containing, counting, ending, exactly
from textloops.writing import format_program, parse_program

LENGTHS = {1: 6, 2: 4, 3: 3}
ONE_NAME = Reader("ab", [(0, 0, 1, 1), (1, 1, None, None)], [None, True], names=["x"], lefts=[1, 0])
ALWAYS = Reader("ab", [(0, 0)], [True])
NEVER = Reader("ab", [(0, 0)], [False])


class ReadingTest(unittest.TestCase):
    def test_random_readers(self):
        for seed in range(150):
            rng = random.Random(seed)
            reads = rng.choice(["a", "ab", "abc", "bd"])
            answers = rng.choice([[True, False], [0, 1, 2, 3], ["", "a", (1, "b"), (1, ("b", -1))]])
            reader = Reader(**random_description(rng, reads, [], answers, rng.choice([1, 2, 5, 12, 17])))
            words = {answer: "".join(rng.choice("cd") for _ in range(rng.randint(0, 3))) for answer in answers}
            made = reading(reader, list(words.items()), prints="cd")
            self.assertEqual((made.reads, made.prints), (reads, "cd"))
            for text in texts_up_to(reads, 4):
                wanted = tuple((letter, ()) for letter in words[reader(text)])
                self.assertEqual(plain_births(made, text), wanted)

    def test_answers_listed_twice_and_others(self):
        words = [["z", "d"], ["", ""], ["a", "cd"], ["b", "c"], ["a", "d"], [("q",), "c"]]
        made = reading(ending("ab"), words, prints="cd")
        self.assertEqual([plain_print(made, text) for text in ["", "a", "ba", "ab"]], ["", "cd", "cd", "c"])
        self.assertEqual(reading(reader=ending("ab"), words=tuple(words), prints="cd"), made)

    def test_true_and_one_are_the_same_answer(self):
        words = [(1, "c"), (False, "d"), (True, "dd"), (0, "cc")]
        for reader in (containing("ab", "b"), counting("ab", "b", 2)):
            made = reading(reader, words, prints="cd")
            self.assertEqual([plain_print(made, text) for text in ["", "a", "ab", "b"]], ["d", "d", "c", "c"])
        nested = Reader("ab", [(0, 1), (1, 1)], [(1, (True,)), (0, [2, [False]])])
        made = reading(nested, [([0, (2, (0,))], "c"), ((True, (1,)), "d")], prints="cd")
        self.assertEqual([plain_print(made, text) for text in ["", "a", "ab"]], ["d", "d", "c"])

    def test_readers_of_one_state(self):
        made = reading(Reader("ab", [(0, 0)], ["t"]), [("t", "cc")], prints="c")
        self.assertEqual([plain_births(made, text) for text in ["", "ab"]], [(("c", ()), ("c", ()))] * 2)
        self.assertEqual(plain_print(reading(Reader("ab", [(0, 0)], ["t"]), [("t", "")], prints="c"), "a"), "")

    def test_large_readers(self):
        reader = exactly("ab", "abbabaabbaababba" * 2)
        made = reading(reader, [(True, "c"), (False, "")], prints="c")
        self.assertEqual(plain_print(made, "abbabaabbaababba" * 2), "c")
        self.assertEqual(plain_print(made, "abbabaabbaababba" * 2 + "a"), "")
        self.assertEqual(plain_print(made, "abbabaabbaababb" * 2), "")
        twelve = counting("ab", "a", 12)
        made = reading(twelve, [(number, "a" * number) for number in range(12)], prints="a")
        self.assertEqual(foretell(made, counting("a", "a", 12)), twelve)

    def test_errors(self):
        words = [("a", "c"), ("q", "e"), ("", "d")]
        self.assertEqual(fault(reading, ending("ab"), words, prints="dc"), ("BadAlphabet", "dc"))
        self.assertEqual(fault(reading, ending("ab"), words, prints="c"), ("MissingAnswer", "b"))
        self.assertEqual(fault(reading, ending("ab"), [], prints="c"), ("MissingAnswer", ""))
        self.assertEqual(fault(reading, ending("a"), words, prints="c"), ("BadText", "e", 0))
        self.assertEqual(fault(reading, ending("a"), words, prints="ce"), ("BadText", "d", 0))
        deep = Reader("a", [(1,), (1,)], [(1, (2,)), "x"])
        self.assertEqual(fault(reading, deep, [("x", "c")], prints="c"), ("MissingAnswer", (1, (2,))))
        self.assertEqual(fault(reading, deep, [((1, (2,)), "cd"), ("x", "")], prints="c"), ("BadText", "cd", 1))


class GuardedRun(PlainRun):
    """A run that leaves out the statement at a spot where the reader answers False."""

    def __init__(self, program, text, spot, name, reader, side):
        super().__init__(program, text)
        self.told = (spot, name, reader, side)

    def statement(self, statement, path):
        spot, name, reader, side = self.told
        if self.spot_of.get(path) == spot:
            place = self.places[name]
            if not reader(self.text[:place] if side == "before" else self.text[place + 1:]):
                return
        super().statement(statement, path)


class GuardedTest(unittest.TestCase):
    def assertGuarded(self, program, spot, name, reader, side):
        made = guarded(program, spot, name, reader, side=side)
        for text in texts_up_to(program.reads, LENGTHS[len(program.reads)]):
            run = GuardedRun(program, text, spot, name, reader, side).whole()
            self.assertEqual(plain_births(made, text), tuple(run.printed))
        return made

    def test_each_spot_and_each_loop_around_it(self):
        checked = 0
        for seed in range(40):
            rng = random.Random(seed)
            if seed % 2:
                program = Shaper(rng).two_loops()
            else:
                program = Maker(rng, rng.choice(["a", "ab", "abc"]), "abc", 3, 2, 3).program(12)
            for spot, (_, loops, _) in enumerate(program.spots):
                for name in loops:
                    size = rng.choice([1, 2, 4, 7])
                    reader = Reader(**random_description(rng, program.reads, [], [True, False], size))
                    self.assertGuarded(program, spot, name, reader, rng.choice(["before", "after"]))
                    checked += 1
        self.assertGreater(checked, 300)

    def test_both_sides(self):
        program = copying("ab")
        for reader in (containing("ab", "ab"), exactly("ab", ""), exactly("ab", "ba"), containing("ab", "b")):
            for side in ("before", "after"):
                self.assertGuarded(program, 1, "x", reader, side)
        made = guarded(program=program, spot=1, name="x", reader=exactly("ab", "ab"), side="after")
        self.assertEqual([plain_print(made, text) for text in ["bab", "aab", "abb"]], ["b", "a", ""])
        made = guarded(program, 1, "x", exactly("ab", "ab"), side="before")
        self.assertEqual([plain_print(made, text) for text in ["aba", "abbb", "ba"]], ["a", "b", ""])

    def test_readers_that_always_answer_the_same(self):
        for side in ("before", "after"):
            for spot in range(1, PAIRS.size):
                self.assertIsNone(same_row(guarded(PAIRS, spot, "x", ALWAYS, side=side), PAIRS))
                self.assertIsNone(same_row(guarded(PAIRS, spot, "x", NEVER, side=side), struck(PAIRS, spot)))

    def test_statements_with_blocks_and_marks(self):
        text = (
            "reads ab prints abc\nmark n1:\n  for n2 down:\n    set n1\n    mark n3:\n      for n4 up:\n        if n1:\n"
            "          copy n4\n          clear n1\n        else:\n          print cc\n    if n1:\n      print c"
        )
        program = parse_program(text)
        for spot, (_, loops, _) in enumerate(program.spots):
            for name in loops:
                for side in ("before", "after"):
                    self.assertGuarded(program, spot, name, containing("ab", "b"), side)
        self.assertEqual(format_program(program), text)

    def test_a_guarded_program_is_passed_on(self):
        made = guarded(AFTER_A, 3, "x", exactly("ab", "b"), side="after")
        both = behind(made, copying("c"))
        for text in texts_up_to("ab", 4):
            wanted = "c" if len(text) > 1 and text[-1] == "b" and "a" in text[:-2] else ""
            self.assertEqual([plain_print(made, text), plain_print(both, text), plain_print(turned(made), text)], [wanted] * 3)
            self.assertEqual(foretell(made, exactly("c", "c"))(text), wanted == "c")

    def test_errors(self):
        wrong = (ending("ab"), counting("ab", "a", 2), containing("a", "a"), ONE_NAME)
        for spot in (-1, 5):
            self.assertEqual(fault(guarded, PAIRS, spot, "q", ending("ab"), side="after"), ("UnknownSpot", spot))
        for spot, name in ((0, "x"), (2, "y"), (4, "z"), (1, "")):
            self.assertEqual(fault(guarded, PAIRS, spot, name, ending("ab"), side="after"), ("UnknownName", name))
        self.assertEqual(fault(guarded, AFTER_A, 3, "m", ALWAYS, side="before"), ("UnknownName", "m"))
        for reader in wrong:
            self.assertEqual(fault(guarded, PAIRS, 4, "x", reader, side="before"), ("WrongLimit",))
        self.assertEqual(Program("ab", "c", PAIRS.block), PAIRS)


if __name__ == "__main__":
    unittest.main()
