import copy
import unittest

from tests.faults import fault
from textloops.programs import Program

INNER = [("for", "y", "down", [("copy", "y")])]


def block_fault(*block, reads="ab", prints="ab"):
    return fault(Program, reads, prints, list(block))


def in_loop(*block):
    """A loop x and in it a mark m with the block."""
    return ("for", "x", "up", [("mark", "m", list(block))])


def if_fault(test):
    """The fault of an `if` at spot 2, within a loop x and a mark m, with a loop y beside it."""
    return block_fault(in_loop(("if", test, [], [])), ("for", "y", "up", []))


class FieldsTest(unittest.TestCase):
    def test_fields(self):
        program = Program("ab", "c", [["for", "x", "up", [["print", "cc"]]]])
        self.assertEqual((program.reads, program.prints), ("ab", "c"))
        self.assertEqual(program.block, (("for", "x", "up", (("print", "cc"),)),))
        self.assertEqual(program.spots, (("for", (), ()), ("print", ("x",), ())))
        self.assertEqual((program.size, program.depth), (2, 1))

    def test_an_empty_program(self):
        program = Program("a", "a", [])
        self.assertEqual((program.block, program.spots, program.size, program.depth), ((), (), 0, 0))
        self.assertEqual(list(program), [])

    def test_spots_in_the_order_of_first_words(self):
        program = Program("ab", "ab", [
            ("mark", "m", [
                ("for", "x", "down", [
                    ("mark", "n", [
                        ("if", ("mark", "n"), [("set", "m"), ("clear", "n")], [("for", "y", "up", [("copy", "x")])]),
                    ]),
                    ("print", "a"),
                ]),
            ]),
            ("for", "z", "up", []),
        ])
        wanted = (
            ("mark", (), ()), ("for", (), ("m",)), ("mark", ("x",), ("m",)), ("if", ("x",), ("m", "n")),
            ("set", ("x",), ("m", "n")), ("clear", ("x",), ("m", "n")), ("for", ("x",), ("m", "n")),
            ("copy", ("x", "y"), ("m", "n")), ("print", ("x",), ("m",)), ("for", (), ()),
        )
        self.assertEqual(program.spots, wanted)
        self.assertEqual(list(program), list(wanted))
        self.assertEqual(tuple(entry for entry in program), wanted)
        self.assertEqual((program.size, program.depth), (10, 2))

    def test_depth(self):
        beside = Program("a", "a", [("for", "x", "up", []), ("for", "y", "up", [])])
        self.assertEqual(beside.depth, 1)
        within = Program("a", "a", [("for", "x", "up", [("if", ("same", "x", "x"), [], [("for", "y", "up", [])])])])
        self.assertEqual(within.depth, 2)

    def test_every_test_is_kept(self):
        tests = [
            ("in", "x", "ab"), ("before", "x", "x"), ("same", "x", "x"), ("mark", "m"), ("not", ("mark", "m")),
            ("and", ("mark", "m"), ("in", "x", "b")), ("or", ("not", ("mark", "m")), ("same", "x", "x")),
        ]
        for test in tests:
            program = Program("ab", "c", [in_loop(("if", test, [], []))])
            self.assertEqual(program.block[0][3][0][2][0], ("if", test, (), ()))

    def test_by_name(self):
        self.assertEqual(Program(reads="a", prints="b", block=[]), Program("a", "b", ()))

    def test_tuples_at_every_level_and_later_changes(self):
        test = ["not", ["mark", "m"]]
        inner = [["set", "m"]]
        block = [["mark", "m", [["if", test, inner, []]]]]
        before = copy.deepcopy(block)
        program = Program("a", "a", block)
        self.assertEqual(block, before)
        test[1][1] = "n"
        inner.append(["clear", "m"])
        block.clear()
        self.assertEqual(program.block, (("mark", "m", (("if", ("not", ("mark", "m")), (("set", "m"),), ()),)),))
        self.assertEqual(program.size, 3)


class EqualityTest(unittest.TestCase):
    def test_the_three_fields_count(self):
        one = Program("ab", "ab", INNER)
        self.assertTrue(one == one)
        self.assertTrue(one == Program("ab", "ab", tuple(INNER)))
        self.assertFalse(one != Program("ab", "ab", INNER))
        self.assertFalse(one == Program("a", "ab", INNER))
        self.assertFalse(one == Program("ab", "abc", INNER))
        self.assertFalse(one == Program("ab", "ab", [("for", "y", "up", [("copy", "y")])]))
        for other in [None, 0, one.block, one.spots, "reads ab prints ab"]:
            self.assertFalse(one == other)
            self.assertTrue(one != other)


class AlphabetErrorsTest(unittest.TestCase):
    def test_reads_then_prints_then_statements(self):
        self.assertEqual(block_fault((), reads="", prints="ba"), ("BadAlphabet", ""))
        self.assertEqual(block_fault((), prints="ba"), ("BadAlphabet", "ba"))
        self.assertEqual(block_fault((), reads="abcdefg"), ("BadAlphabet", "abcdefg"))


class FormErrorsTest(unittest.TestCase):
    def test_statements_without_a_form(self):
        bad = [
            (), [], ("",), ("loop", "x"), ("while", "x", "up", []), ("FOR", "x", "up", []), ("pass",), ("else",),
            ("for", "x", "up"), ("for", "x", "up", [], []), ("for", "x", "Up", []), ("for", "x", "", []),
            ("mark", "m"), ("mark", "m", [], []), ("set",), ("set", "m", "m"), ("clear",), ("clear", "m", "n"),
            ("if", ("mark", "m"), []), ("if", ("mark", "m"), [], [], []), ("print",), ("print", "a", "b"),
            ("copy",), ("copy", "x", "y"),
        ]
        for statement in bad:
            self.assertEqual(block_fault(in_loop(("set", "m"), statement)), ("BadStatement", 3), statement)

    def test_tests_without_a_form(self):
        good = ("mark", "m")
        bad = [
            (), [], ("in", "x"), ("in", "x", "a", "b"), ("before", "x"), ("before", "x", "x", "x"), ("same", "x"),
            ("mark",), ("mark", "m", "m"), ("not",), ("not", good, good), ("and", good), ("and", good, good, good),
            ("or", good), ("xor", good, good), ("at", "x", "x"), ("is", "m"),
        ]
        for test in bad:
            for whole in [test, ("not", test), ("and", good, test), ("or", test, good), ("not", ("or", good, test))]:
                self.assertEqual(if_fault(whole), ("BadStatement", 2), whole)

    def test_the_form_before_the_other_errors_of_the_statement(self):
        self.assertEqual(block_fault(("for", "if", "left", [])), ("BadStatement", 0))
        self.assertEqual(block_fault(("mark", "if")), ("BadStatement", 0))
        self.assertEqual(if_fault(("and", ("mark", "nothing"), ("not", ("in", "x")))), ("BadStatement", 2))
        self.assertEqual(if_fault(("or", ("in", "x", "ba"), ())), ("BadStatement", 2))


class NameErrorsTest(unittest.TestCase):
    def test_names_of_loops_and_marks(self):
        for name in ["", "X", "1", "a" * 21, "if", "in", "at", "or", "x y"]:
            self.assertEqual(block_fault(("for", name, "up", [])), ("BadName", name))
            self.assertEqual(block_fault(("mark", name, [])), ("BadName", name))
        for name in ["ifx", "ors", "a" * 20, "z0"]:
            self.assertIsNone(block_fault(("for", name, "up", []), ("mark", "other", [])))
            self.assertIsNone(block_fault(("mark", name, []), ("for", "other", "up", [])))

    def test_double_names(self):
        self.assertEqual(block_fault(in_loop(("mark", "m", []))), ("DoubleName", "m"))
        self.assertEqual(block_fault(in_loop(), ("for", "m", "up", [])), ("DoubleName", "m"))
        self.assertEqual(block_fault(in_loop(), ("mark", "x", [])), ("DoubleName", "x"))
        self.assertEqual(block_fault(in_loop(("for", "x", "up", []))), ("DoubleName", "x"))

    def test_set_and_clear(self):
        for word in ["set", "clear"]:
            self.assertIsNone(block_fault(in_loop((word, "m"))))
            self.assertEqual(block_fault(in_loop((word, "x"))), ("UnknownName", "x"))
            self.assertEqual(block_fault(("mark", "n", []), in_loop((word, "n"))), ("UnknownName", "n"))
            self.assertEqual(block_fault(in_loop((word, "1"))), ("UnknownName", "1"))
            self.assertEqual(block_fault((word, "m"), in_loop()), ("UnknownName", "m"))

    def test_copy(self):
        self.assertIsNone(block_fault(in_loop(("copy", "x"))))
        self.assertEqual(block_fault(in_loop(("copy", "m"))), ("UnknownName", "m"))
        self.assertEqual(block_fault(in_loop(), ("copy", "x")), ("UnknownName", "x"))
        self.assertEqual(block_fault(in_loop(("copy", "x")), reads="abcd", prints="acf"), ("BadCopy", "b"))
        self.assertEqual(block_fault(("copy", "x"), reads="abcd", prints="acf"), ("UnknownName", "x"))

    def test_print(self):
        self.assertIsNone(block_fault(("print", "abba")))
        self.assertEqual(block_fault(("print", "")), ("BadText", "", 0))
        self.assertEqual(block_fault(("print", "abca")), ("BadText", "abca", 2))
        self.assertEqual(block_fault(("print", "b"), reads="b", prints="a"), ("BadText", "b", 0))


class TestErrorsTest(unittest.TestCase):
    def test_in(self):
        self.assertEqual(if_fault(("in", "m", "a")), ("UnknownName", "m"))
        self.assertEqual(if_fault(("in", "y", "")), ("UnknownName", "y"))
        for letters in ["", "ba", "aa", "c", "abc", "a b"]:
            self.assertEqual(if_fault(("in", "x", letters)), ("BadLetters", letters))

    def test_letters_are_those_that_are_read(self):
        block = ("for", "x", "up", [("if", ("in", "x", "a"), [], [])])
        self.assertIsNone(block_fault(block, reads="a", prints="b"))
        self.assertEqual(block_fault(block, reads="b", prints="a"), ("BadLetters", "a"))

    def test_before_and_same(self):
        for word in ["before", "same"]:
            self.assertIsNone(if_fault((word, "x", "x")))
            self.assertEqual(if_fault((word, "m", "y")), ("UnknownName", "m"))
            self.assertEqual(if_fault((word, "x", "y")), ("UnknownName", "y"))

    def test_marks(self):
        self.assertIsNone(if_fault(("mark", "m")))
        self.assertEqual(if_fault(("mark", "x")), ("UnknownName", "x"))

    def test_from_left_to_right(self):
        one, two, three = ("mark", "one"), ("in", "x", "ba"), ("same", "x", "three")
        self.assertEqual(if_fault(("and", ("not", one), ("or", two, three))), ("UnknownName", "one"))
        self.assertEqual(if_fault(("and", ("or", two, ("not", three)), one)), ("BadLetters", "ba"))
        self.assertEqual(if_fault(("or", ("mark", "m"), ("and", three, two))), ("UnknownName", "three"))


class OrderTest(unittest.TestCase):
    def test_the_first_wrong_statement(self):
        self.assertEqual(block_fault(("print", "x"), ("what",)), ("BadText", "x", 0))
        self.assertEqual(block_fault(("for", "x", "up", [("what",)]), ("for", "1", "up", [])), ("BadStatement", 1))
        self.assertEqual(block_fault(("for", "1", "up", [("what",)])), ("BadName", "1"))
        self.assertEqual(block_fault(("if", ("mark", "m"), [()], [])), ("UnknownName", "m"))

    def test_the_first_block_of_an_if_before_the_second_one(self):
        statement = in_loop(("if", ("mark", "m"), [("print", "c")], [("print", "d")]), ())
        self.assertEqual(block_fault(statement), ("BadText", "c", 0))
        statement = in_loop(("if", ("mark", "m"), [("set", "m")], [()]), ())
        self.assertEqual(block_fault(statement), ("BadStatement", 4))

    def test_double_names_go_by_the_order_of_spots(self):
        self.assertEqual(
            block_fault(("for", "x", "up", [("mark", "y", [])]), ("for", "y", "up", [("mark", "x", [])])),
            ("DoubleName", "y"),
        )
        self.assertEqual(block_fault(in_loop(("for", "if", "up", []), ("mark", "m", []))), ("BadName", "if"))


class DeepTest(unittest.TestCase):
    def test_blocks_and_tests_nested_deep(self):
        test = ("mark", "m")
        for depth in range(120):
            test = ("not", test) if depth % 2 else ("and", test, ("in", "x", "a"))
        block = [("if", test, [], [("set", "m")])]
        for _ in range(120):
            block = [("if", ("mark", "m"), block, [])]
        program = Program("ab", "c", [in_loop(*block)])
        self.assertEqual((program.size, program.depth), (124, 1))
        self.assertEqual(program.spots[-1], ("set", ("x",), ("m",)))
        self.assertTrue(program == Program("ab", "c", program.block))

    def test_equality_of_made_programs_that_are_nested_deeper(self):
        programs = []
        for last in ("a", "a", "b"):
            test = ("in", "x", last)
            for _ in range(3000):
                test = ("not", test)
            block = [("if", test, [], [])]
            for _ in range(3000):
                block = [("if", ("in", "x", "a"), [], block)]
            programs.append(Program("ab", "c", [in_loop(*block)]))
        self.assertTrue(programs[0] == programs[1])
        self.assertFalse(programs[0] == programs[2])

    def test_many_statements(self):
        program = Program("ab", "c", [("print", "c")] * 800)
        self.assertEqual(program.size, 800)
        self.assertEqual(block_fault(*[("print", "a")] * 799, ("print", "c")), ("BadText", "c", 0))


if __name__ == "__main__":
    unittest.main()
