import random
import unittest

from tests.faults import fault
from textloops.programs import Program
from textloops.writing import format_program, parse_program

WHOLE = """reads ab prints abc
mark m:
  for x up:
    if (not m and (x in ab or not x at x)):
      pass
    else:
      set m
      for y down:
        if y before x:
          copy x
    clear m
    mark n:
      pass
  if m:
    pass
print abc"""

HEAD = "reads ab prints ab\n"


def line_fault(text):
    return fault(parse_program, text)


class FormatTest(unittest.TestCase):
    def test_all_forms(self):
        test = ("and", ("not", ("mark", "m")), ("or", ("in", "x", "ab"), ("not", ("same", "x", "x"))))
        program = Program("ab", "abc", [
            ("mark", "m", [
                ("for", "x", "up", [
                    ("if", test, [], [
                        ("set", "m"),
                        ("for", "y", "down", [("if", ("before", "y", "x"), [("copy", "x")], [])]),
                    ]),
                    ("clear", "m"),
                    ("mark", "n", []),
                ]),
                ("if", ("mark", "m"), [], []),
            ]),
            ("print", "abc"),
        ])
        self.assertEqual(format_program(program), WHOLE)
        self.assertEqual(parse_program(WHOLE), program)

    def test_empty_blocks(self):
        self.assertEqual(format_program(Program("a", "b", [])), "reads a prints b\npass")
        self.assertEqual(
            format_program(Program("a", "b", [("for", "x", "up", [])])), "reads a prints b\nfor x up:\n  pass",
        )
        both = Program("a", "b", [("mark", "m", [("if", ("mark", "m"), [("set", "m")], [("clear", "m")])])])
        self.assertEqual(
            format_program(both), "reads a prints b\nmark m:\n  if m:\n    set m\n  else:\n    clear m",
        )

    def test_by_name(self):
        self.assertEqual(format_program(program=parse_program(text=WHOLE)), WHOLE)

    def test_deep_programs(self):
        test = ("mark", "m")
        for depth in range(60):
            test = [("not", test), ("and", test, ("mark", "m")), ("or", ("mark", "m"), test)][depth % 3]
        block = [("if", test, [], [("set", "m")])]
        for depth in range(120):
            block = [("if", ("mark", "m"), block, [])] if depth % 2 else [("if", ("mark", "m"), [("set", "m")], block)]
        program = Program("a", "a", [("mark", "m", block)])
        self.assertEqual(parse_program(format_program(program)), program)
        self.assertEqual(line_fault(HEAD + "if " + "(" * 3000 + ":\n  pass"), ("BadLine", 2))
        self.assertEqual(line_fault(HEAD + "if " + "not " * 3000 + "m:\n  pass"), ("UnknownName", "m"))

    def test_random_programs(self):
        rng = random.Random(41)
        for _ in range(300):
            program = random_program(rng)
            self.assertEqual(parse_program(format_program(program)), program)


def random_program(rng):
    names = iter(f"n{index}" for index in range(1000))
    return Program("ab", "abc", random_block(rng, names, (), (), 4))


def random_block(rng, names, loops, marks, depth):
    return [random_statement(rng, names, loops, marks, depth) for _ in range(rng.choice([0, 1, 1, 2, 3]))]


def random_statement(rng, names, loops, marks, depth):
    kinds = ["print"] + ["set", "clear"] * bool(marks) + ["copy"] * bool(loops)
    if depth > 0:
        kinds += ["for", "mark"] + ["if", "if"] * bool(loops or marks)
    kind = rng.choice(kinds)
    if kind == "print":
        return (kind, rng.choice(["a", "cc", "abc"]))
    if kind in ("set", "clear"):
        return (kind, rng.choice(marks))
    if kind == "copy":
        return (kind, rng.choice(loops))
    if kind == "if":
        blocks = [random_block(rng, names, loops, marks, depth - 1) for _ in range(2)]
        return (kind, random_test(rng, loops, marks, 3), *blocks)
    name = next(names)
    if kind == "for":
        return (kind, name, rng.choice(["up", "down"]), random_block(rng, names, (*loops, name), marks, depth - 1))
    return (kind, name, random_block(rng, names, loops, (*marks, name), depth - 1))


def random_test(rng, loops, marks, depth):
    kinds = ["mark"] * bool(marks) + ["in", "before", "same"] * bool(loops)
    if depth > 0:
        kinds += ["not", "and", "or"]
    kind = rng.choice(kinds)
    if kind == "mark":
        return (kind, rng.choice(marks))
    if kind == "in":
        return (kind, rng.choice(loops), rng.choice(["a", "b", "ab"]))
    if kind in ("before", "same"):
        return (kind, rng.choice(loops), rng.choice(loops))
    return (kind, *[random_test(rng, loops, marks, depth - 1) for _ in range(1 if kind == "not" else 2)])


class FirstLineTest(unittest.TestCase):
    def test_bad_first_lines(self):
        for line in [
            "", "reads a", "reads a prints", "reads a prints ", " reads a prints a", "reads a prints a ",
            "reads  a prints a", "reads a  prints a", "reads a prints  a", "reads a print a", "read a prints a",
            "reads A prints a", "reads a prints a:", "reads\ta prints a", "prints a reads a", "pass",
        ]:
            self.assertEqual(line_fault(line + "\npass"), ("BadLine", 1), line)

    def test_the_empty_text(self):
        self.assertEqual(line_fault(""), ("BadLine", 1))

    def test_alphabets_are_looked_at_behind_all_lines(self):
        self.assertEqual(line_fault("reads ba prints 1\npass"), ("BadAlphabet", "ba"))
        self.assertEqual(line_fault("reads a prints 1\npass"), ("BadAlphabet", "1"))
        self.assertEqual(line_fault("reads ba prints 1\npast"), ("BadLine", 2))

    def test_a_block_must_begin(self):
        self.assertEqual(line_fault("reads a prints a"), ("BadLine", 2))
        self.assertEqual(line_fault("reads a prints a\n"), ("BadLine", 2))
        self.assertEqual(line_fault("reads a prints a\n  pass"), ("BadLine", 2))
        self.assertIsNone(line_fault("reads a prints a\npass"))


class LineTest(unittest.TestCase):
    def check_line(self, line, good):
        """The line stands in the program's block; it is good if the fault is another one, or a line behind it."""
        found = line_fault(HEAD + line)
        if good:
            self.assertNotEqual(found, ("BadLine", 2), line)
        else:
            self.assertEqual(found, ("BadLine", 2), line)

    def test_good_lines(self):
        for line in [
            "for x up:", "for x down:", "for up up:", "for 1 down:", "mark m:", "mark mark:", "mark 9:", "set m",
            "set set", "clear if", "print a", "print pass", "print 1", "copy x", "copy copy", "if m:", "if not m:",
            "if x in at:", "if 1x in ba:", "if x in in:", "if x in not:", "if x before y:", "if x at y:",
            "if not not m:", "if (m and n):", "if (m or not n):", "if ((m and n) or (x in and and m)):",
            "if not (m and n):", "if (not m and not (n or x at y)):", "if (x in or or x in or):", "if 0:", "if elsex:",
        ]:
            self.check_line(line, True)

    def test_bad_lines(self):
        for line in [
            "", " ", "  ", "pass ", "pass:", "Pass", "else:", "else", "for x:", "for x up", "for x up :", "for up:",
            "for x Up:", "for x up::", "for  x up:", "for x  up:", "for X up:", "for x_ up:", "for x y up:", "for",
            "mark:", "mark m", "mark m :", "mark  m:", "mark :", "mark m::", "mark M:", "mark m n:", "set", "set ",
            "set m:", "set m n", "set  m", "set m ", "set\tm", "clear", "clear M", "print", "print ", "print A",
            "print a b", "print a:", "print \"a\"", "copy", "copy x y", "copy x:", "x", "while m:", "if", "if:",
            "if :", "if  :", "if m", "if m :", "if  m:", "ifm:", "if m::", "printa", "reads a prints a", "#", "~",
        ]:
            self.check_line(line, False)

    def test_bad_tests(self):
        for test in [
            "not", "not ", "not not", "not(m and n)", "and", "m and n", "m or n", "(m)", "((m))", "()", "(",
            ")", "(m and n", "m and n)", "(m and n))", "((m and n)", "( m and n)", "(m and n )", "(m  and n)",
            "(m and  n)", "(m xor n)", "(m and)", "(and m)", "(m and n and o)", "(m and n or o)", "(m and n)(m and n)",
            "x in", "in ab", "x in ", "x in A", "x in a b", "x in (ab)", "(x in ab)", "(x) in ab", "x in not m",
            "x before", "x before ", "before y", "x before in", "x before not", "if before x", "not at x", "x at at",
            "x at", "x is y", "x same y", "mark m", "mark", "in", "at", "pass", "in in in", "for in a", "else",
            "x in ab and m", "m\tand n", "not (m and n", "not m and n", "not (m)", "(m and not)", "M", "m_", "m n",
            "x before y at z", "(not)", "((m and n) and)", "m:", "(m and n):", "\"m\"", "x  in a", "x in  a",
        ]:
            self.check_line(f"if {test}:", False)

    def test_lines_left_to_the_errors_of_programs(self):
        self.assertEqual(line_fault(HEAD + "for up up:\n  pass"), ("BadName", "up"))
        self.assertEqual(line_fault(HEAD + "mark 1:\n  pass"), ("BadName", "1"))
        self.assertEqual(line_fault(HEAD + "set set"), ("UnknownName", "set"))
        self.assertEqual(line_fault(HEAD + "print pass"), ("BadText", "pass", 0))
        self.assertEqual(line_fault(HEAD + "for x up:\n  if x in at:\n    pass"), ("BadLetters", "at"))
        self.assertEqual(line_fault(HEAD + "if 1x in ba:\n  pass"), ("UnknownName", "1x"))
        self.assertEqual(line_fault(HEAD + "copy x"), ("UnknownName", "x"))
        self.assertEqual(line_fault("reads ab prints a\nfor x up:\n  copy x"), ("BadCopy", "b"))

    def test_bad_lines_before_other_errors(self):
        self.assertEqual(line_fault("reads b prints b\nset x\nprint a\nif"), ("BadLine", 4))
        self.assertEqual(line_fault("reads b prints b\nset x\nif\nprint"), ("BadLine", 3))


class IndentationTest(unittest.TestCase):
    def check_number(self, text, number):
        self.assertEqual(line_fault(HEAD + text), ("BadLine", number), text)

    def test_behind_a_colon(self):
        for second in ["print a", " print a", "   print a", "    print a", "\tprint a", "", "  "]:
            self.check_number("for x up:\n" + second, 3)
            self.check_number("mark x:\n" + second, 3)

    def test_other_lines(self):
        for third in [" print a", "   print a", "    print a", "\tprint a", "  \tprint a", "     print a"]:
            self.check_number("for x up:\n  print a\n" + third, 4)
        self.check_number("print a\n  print a", 3)
        for third in ["print a", "  print a"]:
            self.assertIsNone(line_fault(HEAD + "for x up:\n  print a\n" + third))

    def test_back_by_several_blocks(self):
        text = "for x up:\n  for y up:\n    for z up:\n      print a\n"
        for indent in range(10):
            found = line_fault(HEAD + text + " " * indent + "print a")
            self.assertEqual(found, None if indent in (0, 2, 4, 6) else ("BadLine", 6))
        self.check_number(text + "  print a\n    print a", 7)

    def test_empty_lines(self):
        self.check_number("print a\n", 3)
        self.check_number("print a\n\nprint a", 3)
        self.check_number("for x up:\n  pass\n  ", 4)
        self.check_number("\nprint a", 2)

    def test_a_text_that_ends_where_a_block_must_begin(self):
        self.check_number("for x up:", 3)
        self.check_number("for x up:\n", 3)
        self.check_number("mark m:\n  if m:", 4)
        self.check_number("mark m:\n  if m:\n    set m\n  else:", 6)


class PassTest(unittest.TestCase):
    def check_number(self, text, number):
        self.assertEqual(line_fault(HEAD + text), ("BadLine", number), text)

    def test_pass_begins_its_block(self):
        self.check_number("print a\npass", 3)
        self.check_number("for x up:\n  pass\npass", 4)
        self.check_number("for x up:\n  print a\n  pass", 4)

    def test_no_line_of_the_block_follows(self):
        self.check_number("pass\nprint a", 3)
        self.check_number("pass\npass", 3)
        self.check_number("for x up:\n  pass\n  print a", 4)
        self.check_number("for x up:\n  pass\n    print a", 4)
        self.check_number("pass\nelse:", 3)
        self.assertIsNone(line_fault(HEAD + "for x up:\n  pass\nprint a"))
        self.assertIsNone(line_fault(HEAD + "for x up:\n  for y up:\n    pass\n  print a"))

    def test_pass_is_not_behind_else(self):
        self.check_number("mark m:\n  if m:\n    pass\n  else:\n    pass", 6)


class ElseTest(unittest.TestCase):
    def check_number(self, text, number):
        self.assertEqual(line_fault(HEAD + text), ("BadLine", number), text)

    def test_else_follows_the_first_block(self):
        self.check_number("else:\n  print a", 2)
        self.check_number("print a\nelse:\n  print a", 3)
        self.check_number("for x up:\n  pass\nelse:\n  print a", 4)
        self.check_number("mark m:\n  else:\n    print a", 3)
        self.check_number("mark m:\n  if m:\n  else:\n    print a", 4)
        self.check_number("mark m:\n  if m:\n    pass\n  print a\n  else:\n    print a", 6)

    def test_only_one_else(self):
        self.check_number("mark m:\n  if m:\n    pass\n  else:\n    print a\n  else:\n    print a", 7)
        self.check_number("mark m:\n  if m:\n    pass\n  else:\n  else:\n    print a", 6)

    def test_the_indentation_of_else(self):
        self.check_number("mark m:\n  if m:\n    pass\nelse:\n  print a", 5)
        self.check_number("mark m:\n  if m:\n    pass\n    else:\n      print a", 5)
        self.check_number("mark m:\n  if m:\n    pass\n   else:\n     print a", 5)

    def test_else_belongs_to_the_if_of_its_indentation(self):
        text = "mark m:\n  if m:\n    if m:\n      set m\n    else:\n      clear m\n  else:\n    print a"
        program = parse_program(HEAD + text)
        inner = ("if", ("mark", "m"), (("set", "m"),), (("clear", "m"),))
        self.assertEqual(program.block, (("mark", "m", (("if", ("mark", "m"), (inner,), (("print", "a"),)),)),))
        self.assertEqual(format_program(program), HEAD + text)

    def test_else_behind_a_deeper_block(self):
        text = "mark m:\n  if m:\n    for x up:\n      pass\n  else:\n    if m:\n      pass"
        self.assertEqual(format_program(parse_program(HEAD + text)), HEAD + text)


class ChangedTextsTest(unittest.TestCase):
    """Written programs with small faults: what is read is written so, and a bad line is the first one."""

    def test_changed_texts(self):
        rng = random.Random(42)
        bad = 0
        for _ in range(1500):
            text = changed(rng, format_program(random_program(rng)))
            try:
                self.assertEqual(format_program(parse_program(text)), text)
            except ValueError:
                bad += self.is_bad_line(text)
        self.assertGreater(bad, 500)

    def is_bad_line(self, text):
        found = line_fault(text)
        if found[0] != "BadLine":
            return False
        lines = text.split("\n")
        number = found[1]
        self.assertIn(number, range(1, len(lines) + 2))
        # The lines before it can be the beginning of a good text, those up to it cannot.
        if number > 1:
            self.assertFalse(self.has_bad_line(lines[:number - 1]), text)
        if number <= len(lines):
            self.assertTrue(self.has_bad_line(lines[:number]), text)
        return True

    def has_bad_line(self, lines):
        if line_fault("\n".join(lines)) is None or line_fault("\n".join(lines))[0] != "BadLine":
            return False
        if len(lines) == 1:
            endings = ["pass"]
        else:
            indent = " " * (len(lines[-1]) - len(lines[-1].lstrip(" ")) + 2)
            endings = [indent + "pass", indent + "print a"]
        faults = [line_fault("\n".join([*lines, ending])) for ending in endings]
        return all(found is not None and found[0] == "BadLine" for found in faults)


def changed(rng, text):
    lines = text.split("\n")
    at = rng.randrange(len(lines))
    kind = rng.randrange(8)
    if kind == 0:
        del lines[at]
    elif kind == 1:
        lines.insert(at, rng.choice(["", "pass", "else:", "print a", "  pass", "  else:", "    print a"]))
    elif kind == 2:
        lines[at] = rng.choice([" ", "  "]) + lines[at]
    elif kind == 3:
        lines[at] = lines[at][rng.choice([1, 2]):]
    elif kind == 4:
        lines[at], lines[-1] = lines[-1], lines[at]
    elif kind == 5:
        lines = lines[:at]
    else:
        index = rng.randrange(len(text))
        sign = rng.choice(["", " ", ":", "(", ")", "a", "\n", "not "])
        return text[:index] + sign + text[index + rng.choice([0, 1]):]
    return "\n".join(lines)


if __name__ == "__main__":
    unittest.main()
