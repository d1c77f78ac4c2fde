import itertools
import random
import unittest

from tests.faults import fault
from tests.reference import texts_up_to
from tests.runs import Maker, plain_births
from tests.shapes import AFTER_A, FOUR_MARKS, PAIRS, TWO_LOOPS, Shaper
from textloops.alike import same_lot
from textloops.changing import mirrored
from textloops.marks import markless
from textloops.programs import Program
from textloops.tables import tables
from textloops.watchers import counting
from textloops.writing import format_program, parse_program

LENGTHS = {1: 6, 2: 4, 3: 3}


def shape(text, places):
    return (tuple(text[place] for place in places), tuple((one > two) - (one < two) for one in places for two in places))


def plain_markless(program, length):
    """The first set of names, with the placed texts, that shows that marks are needed, as far as short texts tell."""
    sets = {tuple(sorted(loops)) for _, loops, _ in program.spots}
    for names in sorted(sets, key=lambda names: (len(names), names)):
        seen = {}
        for text in texts_up_to(program.reads, length):
            printed = {}
            for letter, birth in plain_births(program, text):
                if tuple(name for name, _ in birth) == names:
                    printed.setdefault(tuple(place for _, place in birth), []).append(letter)
            for places in itertools.product(range(len(text)), repeat=len(names)):
                word = sorted(printed.get(places, []))
                first, other = seen.setdefault(shape(text, places), ((text, places), word))
                if word != other:
                    return (names, first, (text, places))
    return None


class MarklessTest(unittest.TestCase):
    def assertMarkless(self, program):
        made, told = markless(program)
        length = LENGTHS[len(program.reads)]
        wanted = plain_markless(program, length)
        if made is None:
            if len(told[2][0]) <= length:
                self.assertEqual(told, wanted)
            return None
        self.assertIsNone(told)
        self.assertIsNone(wanted)
        self.assertEqual((made.reads, made.prints), (program.reads, program.prints))
        self.assertNotIn("mark", [kind for kind, _, _ in made.spots])
        for text in texts_up_to(program.reads, length):
            self.assertEqual(sorted(plain_births(made, text)), sorted(plain_births(program, text)))
        self.assertIsNone(same_lot(made, program))
        return made

    def test_random_programs(self):
        ends = []
        for seed in range(200):
            rng = random.Random(seed)
            if seed % 3 == 0:
                program = Shaper(rng).two_loops() if seed % 2 else mirrored(Shaper(rng).four_marks())
            else:
                program = Maker(rng, rng.choice(["a", "ab", "abc"]), rng.choice(["c", "abc"]), 3, 3, 3).program(14)
            ends.append(self.assertMarkless(program) is None)
        self.assertGreater(ends.count(True), 8)
        self.assertGreater(ends.count(False), 60)

    def test_what_marks_are_good_for(self):
        self.assertEqual(markless(AFTER_A), (None, (("x",), ("a", (0,)), ("aa", (1,)))))
        once = parse_program("reads ab prints c\nmark m:\n  for x up:\n    set m\n  if m:\n    print c")
        self.assertEqual(markless(once), (None, ((), ("", ()), ("a", ()))))
        twice = parse_program(
            "reads ab prints c\nfor y up:\n  for x up:\n    mark m:\n      for z up:\n        if ((x before z and z before y) and z in b):\n"
            "          set m\n      if m:\n        print c"
        )
        self.assertEqual(markless(twice), (None, (("x", "y"), ("aa", (0, 1)), ("aba", (0, 2)))))

    def test_the_first_set_of_names(self):
        for outer, inner in ("xy", "yx"):
            program = parse_program(
                f"reads a prints c\nmark m:\n  for {outer} up:\n    for {inner} up:\n      if m:\n        print c\n"
                f"      set m\n    if (m and not {outer} at {outer}):\n      print c"
            )
            self.assertEqual(markless(program)[1], (("x", "y"), ("a", (0, 0)), ("aa", (1, 1))))
        two = parse_program(
            "reads ab prints c\nmark m:\n  for y up:\n    if m:\n      print c\n    set m\n  for x up:\n    clear m\n    set m\n"
            "    if x in b:\n      print c\n  for w up:\n    for i down:\n      if m:\n        print c\n      clear m"
        )
        self.assertEqual(markless(two)[1], (("y",), ("a", (0,)), ("aa", (1,))))
        both = parse_program(
            "reads ab prints c\nmark m:\n  for y up:\n    if m:\n      print c\n    set m\n  for w down:\n    if m:\n      print c\n"
            "    clear m"
        )
        self.assertEqual(markless(both)[1][0], ("w",))

    def test_marks_that_are_not_needed(self):
        made = self.assertMarkless(parse_program(
            "reads ab prints abc\nmark m:\n  print ca\n  set m\n  for x down:\n    if (m and x in b):\n      for y up:\n"
            "        mark n:\n          if (x before y or y in a):\n            set n\n          if n:\n            copy y\n"
            "            print c\n    copy x"
        ))
        self.assertEqual(sorted(made.spots, key=lambda entry: entry[1])[0], ("print", (), ()))
        self.assertEqual(len(tables(made, counting("abc", "c", 2))), made.size)
        nothing = parse_program("reads ab prints c\nmark m:\n  for x up:\n    if m:\n      print c")
        self.assertEqual(self.assertMarkless(nothing).block, ())

    def test_order_of_letters_and_of_rounds(self):
        # Only the lot counts: the letters of one birth may stand in another order.
        program = parse_program(
            "reads ab prints cd\nmark m:\n  for x up:\n    if m:\n      print cd\n      clear m\n    else:\n      print dc\n"
            "      set m"
        )
        made = self.assertMarkless(program)
        self.assertEqual(format_program(made), "reads ab prints cd\nfor x up:\n  print cd")

    def test_three_places(self):
        made = self.assertMarkless(parse_program(
            "reads ab prints c\nfor z up:\n  for x up:\n    for y up:\n      mark m:\n        if ((x before y and y before z) or x at z):\n"
            "          set m\n        if (m and not (y in b and x in a)):\n          print c"
        ))
        self.assertEqual(made.depth, 3)

    def test_programs_without_marks(self):
        for program in (PAIRS, Program("a", "c", []), Program("ab", "c", [("for", "x", "up", [("for", "y", "up", [])])])):
            self.assertMarkless(program)
        deep = [("if", ("before", "x", "i"), [("print", "c")], [("copy", "z")])]
        for name in ["x", "y", "z", "i", "j", "k"]:
            deep = [("for", name, "up", deep)]
        self.assertEqual(markless(program=Program("ab", "abc", deep)), (Program("ab", "abc", deep), None))
        four = [("mark", "m", [("if", ("before", "x", "i"), [("print", "c")], [("copy", "z")])])]
        for name in ["x", "y", "z", "i"]:
            four = [("for", name, "up", four)]
        made, _ = markless(Program("ab", "abc", four))
        self.assertIsNone(same_lot(made, Program("ab", "abc", four)))

    def test_larger_programs(self):
        for program in (TWO_LOOPS, FOUR_MARKS, mirrored(TWO_LOOPS), mirrored(FOUR_MARKS)):
            self.assertIsNone(self.assertMarkless(program))
        self.assertEqual(fault(markless, PAIRS), None)


if __name__ == "__main__":
    unittest.main()
