import random
import unittest

from tests.reference import texts_up_to
from tests.runs import Maker, plain_births
from tests.shapes import FOUR_MARKS, TWO_LOOPS, Shaper
from textloops.foretelling import foretell
from textloops.programs import Program
from textloops.turning import turned
from textloops.watchers import ending
from textloops.writing import parse_program


class TurningTest(unittest.TestCase):
    def assertTurned(self, program, length):
        made = turned(program)
        self.assertIsInstance(made, Program)
        self.assertEqual((made.reads, made.prints), (program.reads, program.prints))
        for text in texts_up_to(program.reads, length):
            self.assertEqual(plain_births(made, text), plain_births(program, text)[::-1], text)

    def test_random_programs(self):
        for seed in range(60):
            rng = random.Random(seed)
            maker = Maker(rng, rng.choice(["a", "ab"]), rng.choice(["c", "ab"]), rng.randint(1, 3), rng.randint(0, 3))
            self.assertTurned(maker.program(rng.randint(3, 14)), 3)
            self.assertTurned(Shaper(rng).two_loops(), 2)
        for seed in range(8):
            self.assertTurned(Shaper(random.Random(seed)).four_marks(), 3)

    def test_programs_with_marks(self):
        self.assertTurned(FOUR_MARKS, 5)
        self.assertTurned(TWO_LOOPS, 4)

    def test_marks_around_and_within_loops(self):
        for ways in [("up", "up"), ("up", "down"), ("down", "up"), ("down", "down")]:
            for level in range(3):
                block = [
                    ("if", ("mark", "n1"), [("print", "ab"), ("clear", "n1")], [("set", "n1"), ("print", "c")]),
                    ("copy", "n2"), ("if", ("before", "n2", "x"), [("clear", "n1")], [("print", "bc")]),
                ]
                for at, (name, way) in enumerate(zip(["n2", "x"], ways)):
                    if at == level:
                        block = [("mark", "n1", block)]
                    block = [("for", name, way, block)]
                if level == 2:
                    block = [("mark", "n1", block)]
                self.assertTurned(Program("ab", "abc", block), 3)

    def test_prints_of_several_letters(self):
        program = parse_program("reads ab prints ab\nprint aab\nfor x down:\n  print abb\n  copy x\nprint ba")
        self.assertTurned(program, 3)

    def test_programs_without_prints(self):
        self.assertTurned(Program("ab", "c", []), 2)
        self.assertTurned(Program("ab", "c", [("mark", "m", [("for", "x", "up", [("set", "m")])])]), 2)

    def test_tests_of_marks_that_follow_the_print(self):
        program = parse_program(
            "reads ab prints cd\nmark m:\n  for x up:\n    if m:\n      print c\n      clear m\n      if not m:\n"
            "        print d\n    else:\n      if x in b:\n        set m\n  if m:\n    print cd"
        )
        self.assertTurned(program, 5)

    def test_questions_about_turned_programs(self):
        program = parse_program(
            "reads ab prints ab\nmark m:\n  for x up:\n    if m:\n      copy x\n    if x in a:\n      set m"
        )
        reader = foretell(turned(program), ending("ab"))
        for text in texts_up_to("ab", 5):
            self.assertEqual(reader(text), text.partition("a")[2][:1])

    def test_what_is_passed_by_name(self):
        program = Program("a", "b", [["print", "b"]])
        self.assertEqual(turned(program=program), program)


if __name__ == "__main__":
    unittest.main()
