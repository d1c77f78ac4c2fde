import random
import unittest

from tests.faults import fault
from tests.reference import texts_up_to
from tests.runs import Maker, plain_births, plain_print, plain_visits
from tests.shapes import AFTER_A, PAIRS, Shaper
from textloops.programs import Program
from textloops.running import births, run, visits
from textloops.writing import parse_program


def random_programs(seed, rounds):
    for number in range(rounds):
        rng = random.Random(seed + number)
        reads = rng.choice(["a", "ab", "ab"])
        prints = rng.choice(["c", "ab", "abc"])
        yield Maker(rng, reads, prints, rng.randint(1, 4), rng.randint(0, 3), 3).program(rng.randint(3, 14))
        yield Shaper(rng).two_loops()


class RunningTest(unittest.TestCase):
    def assertRuns(self, program, length):
        for text in texts_up_to(program.reads, length):
            self.assertEqual(run(program, text), plain_print(program, text))
            self.assertEqual(births(program, text), plain_births(program, text))
            self.assertEqual(visits(program, text), plain_visits(program, text))

    def test_random_programs(self):
        for program in random_programs(100, 40):
            self.assertRuns(program, 3)

    def test_a_statement_is_begun_once_with_the_same_places(self):
        for program in random_programs(200, 20):
            for text in texts_up_to(program.reads, 3):
                met = [(spot, places) for spot, places, _ in visits(program, text)]
                self.assertEqual(len(met), len(set(met)))

    def test_ways_of_loops(self):
        for way, wanted in [("up", "abca"), ("down", "acba")]:
            program = Program("abc", "abc", [("for", "x", way, [("copy", "x")])])
            self.assertEqual(run(program, "abca"), wanted)
        program = parse_program("reads ab prints ab\nfor x down:\n  for y up:\n    copy y\n  copy x")
        self.assertEqual(run(program, "ab"), "abbaba")

    def test_marks_begin_false_each_time(self):
        program = parse_program(
            "reads a prints bc\nfor x up:\n  mark m:\n    if m:\n      print b\n    set m\n    if m:\n      print c"
        )
        self.assertEqual(run(program, "aaa"), "ccc")
        self.assertEqual(
            visits(program, "a"),
            ((0, (), ()), (1, (0,), ()), (2, (0,), (False,)), (4, (0,), (False,)), (5, (0,), (True,)), (6, (0,), (True,))),
        )

    def test_marks_stay_from_round_to_round(self):
        program = parse_program(
            "reads ab prints c\nmark m:\n  for x up:\n    if x in b:\n      clear m\n    else:\n      set m\n"
            "    if m:\n      print c\n  if m:\n    print cc"
        )
        self.assertEqual([run(program, text) for text in ["", "a", "ab", "aba", "abb"]], ["", "ccc", "c", "cccc", "c"])

    def test_tests(self):
        places = [("before", "x", "y"), ("same", "x", "y"), ("before", "y", "x"), ("before", "x", "x"), ("same", "y", "y")]
        wanted = ["c", "cc", "c", "", "cccc"]
        for test, printed in zip(places, wanted):
            block = [("for", "x", "up", [("for", "y", "up", [("if", test, [("print", "c")], [])])])]
            self.assertEqual(run(Program("ab", "c", block), "ab"), printed)
        true, false = ("in", "x", "a"), ("in", "x", "b")
        for test, holds in [
            (("not", true), False), (("not", false), True), (("and", true, true), True), (("and", true, false), False),
            (("and", false, true), False), (("or", false, true), True), (("or", true, false), True),
            (("or", false, false), False), (("not", ("and", true, ("not", ("or", false, false)))), False),
            (("in", "x", "ab"), True), (("or", ("and", false, true), true), True),
        ]:
            block = [("for", "x", "up", [("if", test, [("print", "c")], [("print", "d")])])]
            self.assertEqual(run(Program("ab", "cd", block), "a"), "c" if holds else "d")

    def test_births_have_names_in_alphabetical_order(self):
        inner = [("for", "x", "down", [("print", "cd")])]
        program = Program("a", "cd", [("for", "xa", "up", [("for", "x1", "up", inner)]), ("print", "d")])
        birth = (("x", 0), ("x1", 0), ("xa", 0))
        self.assertEqual(births(program, "a"), (("c", birth), ("d", birth), ("d", ())))
        self.assertEqual(births(program, ""), (("d", ()),))
        first = (("x", 1), ("x1", 0), ("xa", 0))
        self.assertEqual(births(program, "aa")[:2], (("c", first), ("d", first)))

    def test_visits_have_loops_and_marks_from_the_outermost_one(self):
        program = Program("ab", "c", [
            ("mark", "z", [("mark", "a", [("for", "z1", "up", [("for", "b", "down", [("set", "z")])])])]),
        ])
        self.assertEqual(visits(program, "ab")[3:], (
            (3, (0,), (False, False)), (4, (0, 1), (False, False)), (4, (0, 0), (True, False)),
            (3, (1,), (True, False)), (4, (1, 1), (True, False)), (4, (1, 0), (True, False)),
        ))

    def test_the_empty_text_and_empty_blocks(self):
        self.assertEqual([run(PAIRS, ""), births(PAIRS, ""), visits(PAIRS, "")], ["", (), ((0, (), ()),)])
        empty = Program("a", "b", [])
        self.assertEqual([run(empty, "aa"), births(empty, "a"), visits(empty, "")], ["", (), ()])
        hollow = Program("a", "b", [
            ("for", "x", "up", []), ("mark", "m", []), ("mark", "n", [("if", ("mark", "n"), [], [])]), ("print", "b"),
        ])
        self.assertEqual(run(hollow, "aaa"), "b")
        self.assertEqual(
            visits(hollow, "aa"), ((0, (), ()), (1, (), ()), (2, (), ()), (3, (), (False,)), (4, (), ())),
        )

    def test_wrong_texts(self):
        for function in (run, births, visits):
            self.assertEqual(fault(function, PAIRS, "abca"), ("BadText", "abca", 2))
            self.assertEqual(fault(function, PAIRS, "A"), ("BadText", "A", 0))
            self.assertIsNone(fault(function, PAIRS, ""))

    def test_parameters_by_name(self):
        self.assertEqual(run(program=AFTER_A, text="aab"), "cc")
        self.assertEqual(len(births(program=AFTER_A, text="aab")), 2)
        self.assertEqual(visits(program=AFTER_A, text="")[0], (0, (), ()))

    def test_a_long_text(self):
        text = "ab" * 200
        self.assertEqual(len(run(PAIRS, text)), 200 * 201 // 2)
        self.assertEqual(run(AFTER_A, text), "c" * 399)

    def test_deep_blocks_and_tests(self):
        test = ("in", "x", "a")
        for _ in range(60):
            test = ("not", test)
        block = [("print", "b")]
        for _ in range(57):
            block = [("if", test, block, [])]
        program = Program("a", "b", [("mark", "m", [("for", "x", "up", block)])])
        self.assertEqual(run(program, "aa"), "bb")
        for _ in range(3000):
            block = [("if", ("not", ("in", "x", "b")), block, [])]
        program = Program("ab", "b", [("for", "x", "up", block)])
        self.assertEqual(births(program, "ba"), (("b", (("x", 1),)),))


if __name__ == "__main__":
    unittest.main()
