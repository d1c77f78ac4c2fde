import unittest

from textloops import errors

FIELDS = {
    "BadAlphabet": ["alphabet"], "BadText": ["text", "index"], "BadName": ["name"], "DoubleName": ["name"],
    "UnknownName": ["name"], "BadLetters": ["letters"], "BadPlaces": ["places"], "BadReader": ["state"],
    "DifferentReaders": [], "DifferentAlphabets": [], "BadStatement": ["spot"], "BadCopy": ["letter"],
    "BadLine": ["line"], "UnknownSpot": ["spot"], "WrongWatcher": [], "WrongLimit": [], "Unbounded": ["rounds"],
    "MissingLetter": ["letter"], "MissingAnswer": ["answer"], "NotAnIf": ["spot"], "NoNeighbour": ["spot"],
    "NameInUse": ["name"], "Missing": ["wish", "name"], "UnfitRow": ["wish"], "Broken": ["wish", "text"],
}


class ErrorsTest(unittest.TestCase):
    def test_all_errors_exist_and_no_other_ones(self):
        found = [
            name for name, value in vars(errors).items() if isinstance(value, type) and value.__module__ == errors.__name__
        ]
        self.assertEqual(sorted(found), sorted([*FIELDS, "LoopError"]))
        self.assertEqual(len(FIELDS), 25)

    def test_each_error_is_a_direct_subclass_of_loop_error(self):
        self.assertEqual(errors.LoopError.__bases__, (ValueError,))
        for name in FIELDS:
            self.assertEqual(getattr(errors, name).__bases__, (errors.LoopError,), name)

    def test_fields_by_position_in_the_order_listed(self):
        for name, fields in FIELDS.items():
            values = [f"value{index}" for index, _ in enumerate(fields)]
            error = getattr(errors, name)(*values)
            self.assertEqual(vars(error), dict(zip(fields, values)), name)
            self.assertEqual([getattr(error, field) for field in fields], values)

    def test_fields_by_name(self):
        for name, fields in FIELDS.items():
            values = {field: f"value of {field}" for field in fields}
            self.assertEqual(vars(getattr(errors, name)(**values)), values, name)

    def test_fields_that_are_sequences_are_tuples(self):
        self.assertEqual(errors.BadPlaces([0, 1]).places, (0, 1))
        self.assertEqual(errors.Unbounded(["a", "b"]).rounds, ("a", "b"))
        self.assertEqual(errors.MissingAnswer([1, [2, []]]).answer, (1, (2, ())))


if __name__ == "__main__":
    unittest.main()
