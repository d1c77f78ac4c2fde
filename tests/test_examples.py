"""The examples of the document's interface, as they stand in examples.txt."""

import os
import unittest

from textloops.errors import LoopError

PATH = os.path.join(os.path.dirname(os.path.abspath(__file__)), "examples.txt")


def shown(lines):
    """What the last line shows: its value, or the error that the lines raise."""
    names = {}
    try:
        for line in lines[:-1]:
            exec(line, names)
        return repr(eval(lines[-1], names))
    except LoopError as error:
        fields = ", ".join(repr(value) for value in vars(error).values())
        return f"raises {type(error).__name__}" + (f"({fields})" if fields else "")


class ExamplesTest(unittest.TestCase):
    def test_examples(self):
        with open(PATH) as file:
            examples = file.read().strip("\n").split("\n\n")
        self.assertEqual(len(examples), 55)
        for example in examples:
            lines = example.split("\n")
            asked = [line[4:] for line in lines if line.startswith(">>> ")]
            with self.subTest(example=example):
                wanted = "\n".join(lines[len(asked):])
                got = shown(asked)
                # Fields of an error that are not promised are left out.
                if wanted.startswith("raises") and "(" not in wanted:
                    got = got.partition("(")[0]
                self.assertEqual(got, wanted)


if __name__ == "__main__":
    unittest.main()
