import itertools
import random
import unittest

from tests.faults import fault
from tests.reference import random_description, texts_up_to
from tests.runs import Maker, plain_effect, plain_print
from tests.shapes import AFTER_A, PAIRS, Shaper
from textloops.asking import far_answer
from textloops.programs import Program
from textloops.readers import Reader
from textloops.tables import standing_count, table, tables, whole_table
from textloops.watchers import containing, counting, ending, exactly
from textloops.writing import parse_program

NAMED = Reader("c", [(0, 1), (1, None)], [None, 1], names=["x"], lefts=[1, 0])


def cases(seed, rounds):
    for number in range(rounds):
        rng = random.Random(seed + number)
        if number % 4 == 0:
            program = Shaper(rng).two_loops()
        else:
            reads = rng.choice(["a", "ab", "ab", "abc"])
            maker = Maker(rng, reads, rng.choice(["c", "ab", "abc"]), rng.randint(1, 3), rng.randint(0, 3))
            program = maker.program(rng.randint(3, 12))
        answers = [0, 1, "u"]
        yield program, Reader(**random_description(rng, program.prints, [], answers, rng.randint(1, 3)))


class TablesTest(unittest.TestCase):
    def assertTable(self, program, watcher, spot, length):
        reader = table(program, watcher, spot)
        names = program.spots[spot][1]
        self.assertEqual((reader.alphabet, reader.names), (program.reads, names))
        for text in texts_up_to(program.reads, length):
            for places in itertools.product(range(len(text)), repeat=len(names)):
                wanted = plain_effect(program, watcher, spot, text, places)
                self.assertEqual(reader(text, places), wanted, (text, places))

    def test_random_programs(self):
        for program, watcher in cases(300, 48):
            length = 3 if len(program.reads) < 3 else 2
            for spot in range(program.size):
                self.assertTable(program, watcher, spot, length)
            found = tables(program, watcher)
            self.assertIsInstance(found, tuple)
            self.assertEqual(list(found), [table(program, watcher, spot) for spot in range(program.size)])
            whole = whole_table(program, watcher)
            self.assertEqual((whole.alphabet, whole.names), (program.reads, ()))
            for text in texts_up_to(program.reads, length + 1):
                ends = []
                for state in range(watcher.size):
                    for letter in plain_print(program, text):
                        state = watcher.moves[state][watcher.alphabet.index(letter)]
                    ends.append(state)
                self.assertEqual(whole(text), tuple(ends))

    def test_longer_texts(self):
        for program, watcher in cases(400, 6):
            loops = [spot for spot, (kind, _, _) in enumerate(program.spots) if kind == "for"]
            for spot in loops:
                self.assertTable(program, watcher, spot, 4)

    def test_loops_within_loops(self):
        watcher = counting("c", "c", 3)
        for ways in itertools.product(["up", "down"], repeat=3):
            test = ("or", ("before", "x", "z"), ("and", ("same", "y", "z"), ("in", "x", "b")))
            block = [("if", test, [("if", ("mark", "m"), [("print", "c")], [("set", "m")])], [("clear", "m")])]
            for name, way in zip("zyx", ways):
                block = [("for", name, way, block)]
            program = Program("ab", "c", [("mark", "m", block)])
            for spot in (0, 1, 2, 3):
                self.assertTable(program, watcher, spot, 3)

    def test_least_form(self):
        reader = table(AFTER_A, counting("c", "c", 2), 2)
        again = Reader(reader.alphabet, reader.moves, reader.answers, names=reader.names, lefts=reader.lefts)
        self.assertEqual((again.moves, again.answers, again.lefts), (reader.moves, reader.answers, reader.lefts))
        self.assertEqual(reader.moves, ((0, 0, 1, 1), (1, 1, None, None)))

    def test_names_are_those_around_the_spot(self):
        program = Program("a", "c", [("for", "y", "up", [("mark", "b", [("for", "x", "up", [("print", "c")])])])])
        found = tables(program, counting("c", "c", 2))
        self.assertEqual([reader.names for reader in found], [(), ("y",), ("y",), ("y", "x")])
        self.assertEqual([len(reader.answers[-1]) for reader in found], [2, 2, 4, 4])

    def test_the_outermost_mark_is_the_highest_digit(self):
        program = Program("a", "c", [("mark", "m", [("mark", "n", [("set", "m"), ("clear", "n"), ("print", "c")])])])
        watcher = counting("c", "c", 3)
        found = [reader("") for reader in tables(program, watcher)]
        self.assertEqual(found[2], (6, 7, 8, 9, 10, 11, 6, 7, 8, 9, 10, 11))
        self.assertEqual(found[3], (0, 1, 2, 0, 1, 2, 6, 7, 8, 6, 7, 8))
        self.assertEqual(found[4], (1, 2, 0, 4, 5, 3, 7, 8, 6, 10, 11, 9))
        self.assertEqual(found[1], (4, 5, 3, 4, 5, 3))
        self.assertEqual(found[0], (1, 2, 0))

    def test_standings_that_no_run_comes_to(self):
        program = parse_program("reads a prints c\nmark m:\n  if m:\n    for x up:\n      print c\n      clear m")
        watcher = counting("c", "c", 3)
        self.assertEqual(table(program, watcher, 2)("aa"), (2, 0, 1, 2, 0, 1))
        self.assertEqual(table(program, watcher, 1)("aa"), (0, 1, 2, 2, 0, 1))
        self.assertEqual(table(program, watcher, 0)("aa"), (0, 1, 2))
        lost = exactly("c", "c")
        self.assertEqual(table(program, lost, 3)("a", (0,)), (1, 2, 2, 4, 5, 5))

    def test_the_empty_text_and_empty_blocks(self):
        watcher = counting("c", "c", 2)
        program = Program("ab", "c", [
            ("for", "x", "up", []), ("mark", "m", []), ("mark", "n", [("if", ("mark", "n"), [], [])]),
            ("for", "y", "down", [("print", "c")]),
        ])
        found = tables(program, watcher)
        for spot, wanted in [(0, (0, 1)), (1, (0, 1)), (2, (0, 1)), (3, (0, 1, 2, 3)), (4, (0, 1))]:
            self.assertEqual(found[spot](""), wanted)
        self.assertEqual([found[4]("a"), found[4]("ab"), found[0]("ab")], [(1, 0), (0, 1), (0, 1)])
        empty = Program("a", "b", [])
        self.assertEqual(tables(empty, ending("b")), ())
        self.assertEqual(whole_table(empty, ending("b"))("aaa"), (0, 1))

    def test_standing_count(self):
        program = Program("a", "ab", [("mark", "m", [("mark", "n", [("for", "x", "up", [("copy", "x")])])])])
        watcher = containing("ab", "ab")
        self.assertEqual([standing_count(program, watcher, spot) for spot in range(4)], [3, 6, 12, 12])

    def test_errors(self):
        watcher = counting("c", "c", 2)
        for function in (table, standing_count):
            for spot in (-1, 5, 99):
                self.assertEqual(fault(function, PAIRS, watcher, spot), ("UnknownSpot", spot))
            self.assertIsNone(fault(function, PAIRS, watcher, 4))
            for wrong in (NAMED, ending("ab"), ending("cd")):
                self.assertEqual(fault(function, PAIRS, wrong, 99), ("WrongWatcher",))
                self.assertEqual(fault(function, PAIRS, wrong, 0), ("WrongWatcher",))
        for function in (tables, whole_table):
            for wrong in (NAMED, ending("ab"), ending("a")):
                self.assertEqual(fault(function, PAIRS, wrong), ("WrongWatcher",))

    def test_parameters_by_name(self):
        watcher = counting("c", "c", 2)
        self.assertEqual(standing_count(program=PAIRS, watcher=watcher, spot=0), 2)
        self.assertEqual(table(program=PAIRS, watcher=watcher, spot=4)("a", (0, 0)), (1, 0))
        self.assertEqual(tables(program=PAIRS, watcher=watcher)[4]("a", (0, 0)), (1, 0))
        self.assertEqual(whole_table(program=PAIRS, watcher=watcher)("ab"), (1, 0))

    def test_deep_blocks(self):
        block = [("print", "c")]
        for _ in range(1200):
            block = [("if", ("in", "x", "a"), block, [])]
        program = Program("ab", "c", [("for", "x", "up", block)])
        self.assertEqual(whole_table(program, counting("c", "c", 3))("aba"), (2, 0, 1))

    def test_far_texts(self):
        whole = whole_table(AFTER_A, counting("c", "c", 7))
        many = 10 ** 40
        wanted = tuple((state + 2 * many) % 7 for state in range(7))
        self.assertEqual(far_answer(whole, [("b", many), ("a", 1), ("ab", many)]), wanted)


if __name__ == "__main__":
    unittest.main()
