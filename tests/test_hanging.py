import unittest

from tests.faults import fault
from tests.reference import texts_up_to
from tests.shapes import AFTER_A, FOUR_MARKS, PAIRS, TWO_LOOPS
from tests.test_reaches import all_places, begun_at, cases
from textloops.hanging import hangs
from textloops.programs import Program
from textloops.writing import parse_program


def answers(program, spot, text, known):
    """What `reach` answers for all places of the text."""
    if text not in known:
        known[text] = begun_at(program, text)
    begun = known[text]
    return {places: begun.get((spot, places), False) for places in all_places(text, program.spots[spot][1])}


def slow_hangs(program, spot, length, known):
    for text in texts_up_to(program.reads, length):
        own = answers(program, spot, text, known)
        for places in all_places(text, program.spots[spot][1]):
            for z in range(len(text)):
                for letter in program.reads if z not in places else "":
                    other = text[:z] + letter + text[z + 1:]
                    if answers(program, spot, other, known)[places] != own[places]:
                        return (text, places, z, letter)
    return None


class HangingTest(unittest.TestCase):
    def assertHangs(self, program, length):
        found = []
        known = {}
        for spot in range(program.size):
            got = hangs(program, spot)
            wanted = slow_hangs(program, spot, length, known)
            if wanted is None:
                self.assertTrue(got is None or len(got[0]) > length, (spot, got))
            else:
                self.assertEqual(got, wanted)
            found.append(got is not None)
        return found

    def test_random_programs(self):
        found = []
        for _, program in cases(5000, 40):
            found.extend(self.assertHangs(program, 3 if len(program.reads) < 3 else 2))
        self.assertIn(True, found)
        self.assertIn(False, found)

    def test_programs_with_marks(self):
        self.assertHangs(TWO_LOOPS, 4)
        self.assertHangs(AFTER_A, 5)

    def test_the_first_quadruple(self):
        program = parse_program(
            "reads abc prints c\nmark m:\n  for x up:\n    for y down:\n      if m:\n        print c\n      if y in b:\n"
            "        set m"
        )
        self.assertHangs(program, 3)
        self.assertEqual(hangs(program, 4), ("aa", (0, 0), 1, "b"))
        self.assertIsNone(hangs(program, 1))
        self.assertIsNone(hangs(program, 0))

    def test_statements_outside_of_loops(self):
        program = parse_program(
            "reads ab prints c\nmark m:\n  for x up:\n    if x in b:\n      set m\n    else:\n      clear m\n  if m:\n    print c"
        )
        self.assertEqual([hangs(program, spot) for spot in (0, 1, 5, 6)], [None, None, ("a", (), 0, "b"), ("a", (), 0, "b")])

    def test_a_far_text(self):
        self.assertEqual(hangs(FOUR_MARKS, 16), ("a" * 16, (15,), 0, "b"))

    def test_one_letter(self):
        program = parse_program("reads a prints c\nmark m:\n  for x up:\n    if m:\n      print c\n    set m")
        self.assertEqual([hangs(program, spot) for spot in range(5)], [None] * 5)

    def test_places_of_two_loops_at_one_letter(self):
        program = Program("ab", "c", [
            ("for", "x", "up", [("for", "y", "up", [("if", ("and", ("same", "x", "y"), ("in", "y", "b")), [("print", "c")], [])])]),
        ])
        self.assertEqual([hangs(program, spot) for spot in range(4)], [None] * 4)

    def test_errors(self):
        for spot in (-1, 5):
            self.assertEqual(fault(hangs, PAIRS, spot), ("UnknownSpot", spot))
        self.assertIsNone(hangs(program=PAIRS, spot=4))


if __name__ == "__main__":
    unittest.main()
