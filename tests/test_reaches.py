import itertools
import random
import unittest

from tests.faults import fault
from tests.reference import placed_texts, random_description, texts_up_to
from tests.runs import Maker, PlainRun, plain_births, plain_visits
from tests.shapes import AFTER_A, FOUR_MARKS, PAIRS, Shaper
from textloops.asking import far_answer, first_text
from textloops.programs import Program
from textloops.reaches import claim, come_to, printed_at, reach
from textloops.readers import Reader
from textloops.watchers import containing, counting, ending, exactly, scattered
from textloops.writing import parse_program

NONE = Reader("ab", [(0, 0)], [False])
ALL = Reader("ab", [(0, 0)], [True])
NEVER = parse_program("reads ab prints c\nmark m:\n  if m:\n    for x up:\n      for y down:\n        print c")


def cases(seed, rounds, depth=3):
    for number in range(rounds):
        rng = random.Random(seed + number)
        if number % 3 == 0:
            yield rng, Shaper(rng).two_loops()
        else:
            reads = rng.choice(["a", "ab", "ab", "abc"])
            maker = Maker(rng, reads, rng.choice(["c", "ab", "abc"]), rng.randint(1, 3), rng.randint(0, 3), depth)
            yield rng, maker.program(rng.randint(3, 14))


def all_places(text, names):
    return itertools.product(range(len(text)), repeat=len(names))


def begun_at(program, text):
    """What the run begins: a dict from spots and places to the truth values of the marks."""
    return {(spot, places): truths for spot, places, truths in plain_visits(program, text)}


def holds(test, text, places, truths):
    run = PlainRun(Program("a", "a", []), text)
    run.places = places
    run.truths = truths
    return run.holds(test)


class ReachTest(unittest.TestCase):
    def assertReach(self, program, length):
        readers = [reach(program, spot) for spot in range(program.size)]
        for reader, (_, loops, _) in zip(readers, program.spots):
            self.assertEqual((reader.alphabet, reader.names), (program.reads, loops))
        for text in texts_up_to(program.reads, length):
            begun = begun_at(program, text)
            for spot, reader in enumerate(readers):
                for places in all_places(text, reader.names):
                    wanted = begun.get((spot, places), False)
                    self.assertEqual(reader(text, places), wanted)
                    self.assertIs(type(reader(text, places)), type(wanted))

    def test_random_programs(self):
        for _, program in cases(1000, 60):
            self.assertReach(program, 3 if len(program.reads) < 3 else 2)
        for seed in range(6):
            self.assertReach(Shaper(random.Random(seed)).four_marks(), 3)

    def test_ways_and_marks(self):
        for ways in itertools.product(["up", "down"], repeat=2):
            for level in range(3):
                block = [
                    ("if", ("mark", "m"), [("print", "c")], [("if", ("in", "y", "b"), [("set", "m")], [])]),
                    ("if", ("before", "x", "y"), [("clear", "m")], []),
                ]
                for at, (name, way) in enumerate(zip("yx", ways)):
                    if at == level:
                        block = [("mark", "m", block)]
                    block = [("for", name, way, block), ("print", "c")]
                self.assertReach(Program("ab", "c", [("mark", "m", block)] if level == 2 else block), 4)

    def test_statements_outside_of_loops(self):
        program = parse_program(
            "reads ab prints c\nmark m:\n  mark n:\n    for x up:\n      if x in b:\n        set n\n    if n:\n"
            "      print c\n    else:\n      print cc"
        )
        self.assertEqual([reach(program, 6)(text) for text in ["", "ab"]], [False, (False, True)])
        self.assertEqual([reach(program, 7)(text) for text in ["", "ab"]], [(False, False), False])
        self.assertEqual(reach(program, 0).answers, ((),))
        self.assertEqual(reach(program, 3)("bb", (1,)), (False, True))

    def test_a_statement_that_no_run_comes_to(self):
        self.assertEqual(reach(NEVER, 4)("ab", (0, 1)), False)
        self.assertEqual(set(reach(NEVER, 4).answers), {None, False})

    def test_far_texts(self):
        program = parse_program("reads ab prints c\nmark m:\n  for x up:\n    if x in a:\n      set m\n  if m:\n    print c")
        self.assertEqual(far_answer(reach(program, 5), [("b", 10 ** 40), ("ab", 10 ** 40)]), (True,))

    def test_errors(self):
        for spot in (-1, 5, 80):
            self.assertEqual(fault(reach, PAIRS, spot), ("UnknownSpot", spot))
        self.assertEqual(reach(program=PAIRS, spot=0).answers, ((),))


class ComeToTest(unittest.TestCase):
    def assertComeTo(self, program, spot, within, length):
        word, begun, missed = come_to(program, spot, within=within)
        found = {}
        for text, places in placed_texts(program.reads, len(program.spots[spot][1]), length):
            if within is None or within(text):
                found.setdefault((spot, places) in begun_at(program, text), (text, places))
        for is_begun, got in [(True, begun), (False, missed)]:
            if is_begun in found:
                self.assertEqual(got, found[is_begun])
            else:
                self.assertTrue(got is None or len(got[0]) > length)
        self.assertEqual(word, "always" if missed is None else "never" if begun is None else "open")
        return word

    def test_random_programs(self):
        words = []
        for rng, program in cases(2000, 24):
            limit = Reader(**random_description(rng, program.reads, [], [True, False], 3))
            for spot in range(program.size):
                for within in (None, limit):
                    words.append(self.assertComeTo(program, spot, within, 3 if len(program.reads) < 3 else 2))
        self.assertEqual(set(words), {"always", "never", "open"})

    def test_the_three_words(self):
        self.assertEqual(come_to(PAIRS, 0), ("always", ("", ()), None))
        self.assertEqual(come_to(PAIRS, 1), ("always", ("a", (0,)), None))
        self.assertEqual(come_to(NEVER, 4), ("never", None, ("a", (0, 0))))
        self.assertEqual(come_to(PAIRS, 2), ("open", ("b", (0,)), ("a", (0,))))
        self.assertEqual(come_to(PAIRS, 2, within=exactly("ab", "bb")), ("always", ("bb", (1,)), None))
        self.assertEqual(come_to(PAIRS, 2, within=exactly("ab", "a")), ("never", None, ("a", (0,))))
        self.assertEqual(come_to(PAIRS, 1, within=exactly("ab", "")), ("always", None, None))
        self.assertEqual(come_to(PAIRS, 0, within=exactly("ab", "")), ("always", ("", ()), None))
        self.assertEqual(come_to(NEVER, 3, within=NONE), ("always", None, None))
        self.assertEqual(come_to(PAIRS, 4, within=ALL), come_to(PAIRS, 4))

    def test_the_order_is_that_of_placed_texts(self):
        program = parse_program("reads ab prints c\nfor x up:\n  if x in a:\n    print c")
        self.assertEqual(come_to(program, 2, within=exactly("ab", "aab"))[1], ("aab", (1,)))
        self.assertEqual(come_to(program, 2, within=exactly("ab", "aba"))[1:], (("aba", (2,)), ("aba", (1,))))
        program = parse_program("reads ab prints c\nfor x up:\n  for y down:\n    if x before y:\n      print c")
        self.assertEqual(come_to(program, 3, within=exactly("ab", "bab"))[1], ("bab", (1, 2)))

    def test_a_far_text(self):
        self.assertEqual(come_to(FOUR_MARKS, 17)[1], ("a" * 16, (15,)))
        limit = scattered("ab", "b" * 20)
        self.assertEqual(come_to(FOUR_MARKS, 17, within=limit)[1], ("a" * 15 + "b" * 20 + "a", (35,)))

    def test_errors(self):
        for within in (ending("ab"), exactly("abc", "a"), reach(PAIRS, 1)):
            self.assertEqual(fault(come_to, PAIRS, 9, within=within), ("UnknownSpot", 9))
            self.assertEqual(fault(come_to, PAIRS, -1, within=within), ("UnknownSpot", -1))
            self.assertEqual(fault(come_to, PAIRS, 4, within=within), ("WrongLimit",))
        self.assertEqual(come_to(program=PAIRS, spot=0)[0], "always")


class ClaimTest(unittest.TestCase):
    def assertClaim(self, program, spot, test, within, length):
        got = claim(program, spot, test, within=within)
        _, loops, marks = program.spots[spot]
        for text, places in placed_texts(program.reads, len(loops), length):
            truths = begun_at(program, text).get((spot, places))
            if truths is not None and (within is None or within(text)):
                if not holds(test, text, dict(zip(loops, places)), dict(zip(marks, truths))):
                    self.assertEqual(got, (text, places))
                    return
        self.assertTrue(got is None or len(got[0]) > length)

    def test_random_programs(self):
        for rng, program in cases(3000, 24):
            limit = Reader(**random_description(rng, program.reads, [], [True, False], 3))
            maker = Maker(rng, program.reads, "c", 0, 0)
            for spot, (_, loops, marks) in enumerate(program.spots):
                for within in (None, limit) if loops or marks else ():
                    test = maker.test(loops, marks, 2)
                    self.assertClaim(program, spot, test, within, 3 if len(program.reads) < 3 else 2)

    def test_all_forms(self):
        program = parse_program(
            "reads ab prints c\nmark m:\n  for x up:\n    for y up:\n      if x before y:\n        set m\n        print c"
        )
        mark, place, same, letter = ("mark", "m"), ("before", "x", "y"), ("same", "x", "y"), ("in", "x", "b")
        for spot, test, wanted in [
            (5, mark, None), (5, place, None), (5, same, ("aa", (0, 1))), (5, ("not", same), None),
            (5, letter, ("aa", (0, 1))), (5, ("in", "y", "ab"), None), (5, ("and", mark, place), None),
            (5, ("and", mark, letter), ("aa", (0, 1))), (5, ("or", letter, ("in", "x", "a")), None),
            (5, ("or", letter, ("in", "y", "a")), ("ab", (0, 1))), (4, ["or", ["not", list(mark)], ["same", "x", "x"]], None),
            (1, ("not", mark), None), (1, mark, ("", ())), (3, mark, ("a", (0, 0))), (2, ("in", "x", "a"), ("b", (0,))),
            (3, ("or", ("in", "y", "a"), mark), ("b", (0, 0))),
        ]:
            self.assertEqual(claim(program, spot, test), wanted)
            self.assertClaim(program, spot, test, None, 3)

    def test_the_order_is_that_of_placed_texts(self):
        program = parse_program("reads ab prints c\nfor x up:\n  for y up:\n    print c")
        limit = exactly("ab", "bba")
        self.assertEqual(claim(program, 2, ("in", "y", "a"), within=limit), ("bba", (2, 1)))
        self.assertEqual(claim(program, 2, ("before", "x", "y"), within=limit), ("bba", (2, 2)))
        self.assertEqual(claim(program, 2, ("same", "x", "y"), within=limit), ("bba", (1, 2)))

    def test_a_far_text(self):
        self.assertEqual(claim(FOUR_MARKS, 5, ("not", ("mark", "k"))), ("a" * 9, (8,)))
        self.assertIsNone(claim(FOUR_MARKS, 17, ("and", ("mark", "k"), ("not", ("mark", "l")))))

    def test_limits(self):
        test = ("in", "x", "a")
        self.assertEqual(claim(AFTER_A, 3, test), ("ab", (1,)))
        self.assertIsNone(claim(AFTER_A, 3, test, within=NONE))
        self.assertIsNone(claim(AFTER_A, 3, test, within=exactly("ab", "baa")))
        self.assertEqual(claim(AFTER_A, 3, test, within=containing("ab", "bb")), ("abb", (2,)))

    def test_errors(self):
        wrong = counting("ab", "a", 2)
        for within in (None, wrong):
            self.assertEqual(fault(claim, AFTER_A, 6, ("nor",), within=within), ("UnknownSpot", 6))
            for test in [
                (), ("nor",), ("in", "x"), ("in", "x", "a", "b"), ("mark",), ("mark", "m", "m"), ("not",),
                ("not", ("mark", "m"), ("mark", "m")), ("and", ("mark", "m")), ("or", ("mark", "q"), ("before", "x")),
                ("and", ("not", ()), ("mark", "q")), ["same", "x"], ["and", ["in", "q", ""], ["if"]],
            ]:
                self.assertEqual(fault(claim, AFTER_A, 3, test, within=within), ("BadStatement", 3))
            for test, wanted in [
                (("in", "y", "q"), ("UnknownName", "y")), (("in", "x", "ba"), ("BadLetters", "ba")),
                (("in", "x", ""), ("BadLetters", "")), (("in", "x", "abc"), ("BadLetters", "abc")),
                (("in", "m", "a"), ("UnknownName", "m")), (("mark", "x"), ("UnknownName", "x")),
                (("before", "x", "z"), ("UnknownName", "z")), (("same", "y", "z"), ("UnknownName", "y")),
                (("and", ("mark", "m"), ("in", "x", "aa")), ("BadLetters", "aa")),
                (("or", ("in", "x", "c"), ("mark", "q")), ("BadLetters", "c")),
                (("not", ("or", ("mark", "q"), ("in", "x", "c"))), ("UnknownName", "q")),
            ]:
                self.assertEqual(fault(claim, AFTER_A, 3, test, within=within), wanted)
        self.assertEqual(fault(claim, AFTER_A, 3, ("mark", "m"), within=wrong), ("WrongLimit",))
        self.assertEqual(fault(claim, AFTER_A, 2, ("mark", "q")), ("UnknownName", "q"))
        self.assertEqual(fault(claim, AFTER_A, 1, ("in", "x", "a")), ("UnknownName", "x"))
        self.assertEqual(fault(claim, AFTER_A, 0, ("mark", "m")), ("UnknownName", "m"))
        self.assertIsNone(claim(program=AFTER_A, spot=3, test=["mark", "m"]))

    def test_what_is_passed_stays(self):
        test = ["not", ["in", "x", "a"]]
        claim(AFTER_A, 3, test)
        self.assertEqual(test, ["not", ["in", "x", "a"]])


class PrintedAtTest(unittest.TestCase):
    def assertPrintedAt(self, program, names, length):
        reader = printed_at(program, names)
        wanted = tuple(sorted(names))
        self.assertEqual((reader.alphabet, reader.names), (program.reads, wanted))
        for text in texts_up_to(program.reads, length):
            born = plain_births(program, text)
            for places in all_places(text, wanted):
                birth = tuple(zip(wanted, places))
                printed = "".join(letter for letter, other in born if other == birth)
                self.assertEqual(reader(text, places), printed)

    def test_random_programs(self):
        for rng, program in cases(4000, 45):
            chains = {loops for _, loops, _ in program.spots}
            for loops in sorted(chains | {(), ("q",)}):
                names = list(loops)
                rng.shuffle(names)
                self.assertPrintedAt(program, names, 3 if len(program.reads) < 3 else 2)

    def test_several_statements_in_the_order_of_the_spots(self):
        program = parse_program(
            "reads ab prints abc\nprint c\nfor y down:\n  for x up:\n    print ca\n    if x before y:\n      copy x\n"
            "    copy y\n  copy y\nprint ab"
        )
        for names in ([], ["y"], ["x", "y"], ["y", "x"], ["x"], ["z"], ("w", "z")):
            self.assertPrintedAt(program, names, 3)
        self.assertEqual(printed_at(program, ["y", "x"])("ab", (0, 1)), "caab")
        self.assertEqual(printed_at(program, ["y", "x"])("ab", (1, 0)), "caa")
        self.assertEqual(printed_at(program, ())(""), "cab")

    def test_names_without_statements(self):
        for names in (["z"], ["x", "z"], ["y"]):
            reader = printed_at(PAIRS, names)
            self.assertEqual(set(reader.answers), {None, ""})
            self.assertEqual(reader.names, tuple(names))
        self.assertEqual(printed_at(PAIRS, []).answers, ("",))

    def test_errors(self):
        self.assertEqual(fault(printed_at, PAIRS, ["x", "x", "1"]), ("BadName", "1"))
        self.assertEqual(fault(printed_at, PAIRS, ["for", "X"]), ("BadName", "for"))
        self.assertEqual(fault(printed_at, PAIRS, ("y", "x", "x", "y")), ("DoubleName", "x"))
        names = ["y", "x"]
        self.assertEqual(first_text(printed_at(program=PAIRS, names=names), ["c"]), ("ab", (1, 0)))
        self.assertEqual(names, ["y", "x"])


if __name__ == "__main__":
    unittest.main()
