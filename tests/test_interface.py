"""All that the document's interface lists is there, under its names and with its arguments, as interface.txt tells."""

import importlib
import inspect
import os
import unittest

from textloops.errors import LoopError

PATH = os.path.join(os.path.dirname(os.path.abspath(__file__)), "interface.txt")


def listed():
    """Pairs of a module's name and a line `name(arguments)`, or `Class.method(arguments)`."""
    with open(PATH) as file:
        lines = file.read().splitlines()
    module = ""
    for line in lines:
        if line.startswith("  "):
            yield module, line.strip()
        else:
            module = line


class InterfaceTest(unittest.TestCase):
    def test_names_and_arguments(self):
        found = list(listed())
        self.assertEqual(len(found), 79)
        for name, line in found:
            module = importlib.import_module(f"textloops.{name}")
            path, _, arguments = line.partition("(")
            thing = module
            for part in path.split("."):
                # What is listed stands in the very module or class, and is not taken from another one.
                thing = vars(thing)[part]
            self.assertEqual(thing.__module__, module.__name__)
            self.assertEqual(str(inspect.signature(thing)), "(" + arguments, line)

    def test_errors_are_direct_subclasses(self):
        module = importlib.import_module("textloops.errors")
        classes = [thing for thing in vars(module).values() if isinstance(thing, type) and thing is not LoopError]
        self.assertEqual(len(classes), 25)
        for error in classes:
            self.assertEqual(error.__bases__, (LoopError,))
        self.assertEqual(LoopError.__bases__, (ValueError,))


if __name__ == "__main__":
    unittest.main()
