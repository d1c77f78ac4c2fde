import copy
import random
import unittest

from tests.faults import fault
from tests.reference import described_answer, placed_texts, random_description
from textloops.readers import Reader

PLACE = {
    "alphabet": "ab", "names": ["x"], "lefts": [1, 0, 0], "answers": [None, True, False],
    "moves": [(0, 0, 1, 2), (1, 1, None, None), (2, 2, None, None)],
}
RESERVED = (
    "reads prints for up down mark set clear if else print copy pass in before at not and or"
).split(" ")


def one_state(alphabet="a", answer=0, names=()):
    return Reader(alphabet, [[0] * len(alphabet)], [answer], names=names)


class AlphabetTest(unittest.TestCase):
    def test_good_alphabets(self):
        for alphabet in ["a", "z", "abcdef", "bxz"]:
            self.assertEqual(one_state(alphabet).alphabet, alphabet)

    def test_bad_alphabets(self):
        for alphabet in ["", "abcdefg", "ba", "aa", "aB", "A", "a1", "a ", " a", "a\n", "{", "`", "az~"]:
            self.assertEqual(fault(Reader, alphabet, [], []), ("BadAlphabet", alphabet))


class NameTest(unittest.TestCase):
    def names_fault(self, *names):
        return fault(Reader, "a", [], [], names=list(names))

    def test_good_names(self):
        for name in ["x", "z9", "a" * 20, "a0", "fo", "forx", "up1", "printss", "a" + "0" * 19]:
            self.assertEqual(self.names_fault(name), ("BadReader", -1))

    def test_bad_names(self):
        for name in ["", "X", "1", "1a", "a" * 21, "a_b", "a b", "aB", "x\n", " x", *RESERVED]:
            self.assertEqual(self.names_fault("x", name), ("BadName", name))

    def test_the_first_bad_name_before_a_double_one(self):
        self.assertEqual(self.names_fault("x", "x", "if", "1"), ("BadName", "if"))
        self.assertEqual(self.names_fault("x", "y", "y", "x"), ("DoubleName", "y"))


class BadReaderTest(unittest.TestCase):
    def place_fault(self, **changes):
        return fault(Reader, **{**PLACE, **changes})

    def test_lengths(self):
        self.assertEqual(fault(Reader, "a", [], []), ("BadReader", -1))
        self.assertEqual(fault(Reader, "a", [[0]], []), ("BadReader", -1))
        self.assertEqual(fault(Reader, "a", [[0]], [1, 2]), ("BadReader", -1))
        self.assertEqual(fault(Reader, "a", [[0]], [1], lefts=[]), ("BadReader", -1))
        self.assertEqual(fault(Reader, "a", [[0]], [1], lefts=[0, 0]), ("BadReader", -1))
        self.assertEqual(fault(Reader, "a", [[0], [0]], [1]), ("BadReader", -1))

    def test_first_state_has_all_names_left(self):
        self.assertEqual(fault(Reader, "a", [[0, 0]], [None], names=["x"]), ("BadReader", 0))
        self.assertEqual(self.place_fault(lefts=[0, 0, 0]), ("BadReader", 0))
        self.assertEqual(fault(Reader, "a", [[0]], [None], lefts=[1]), ("BadReader", 0))

    def test_row_length(self):
        self.assertEqual(fault(Reader, "ab", [[0, 0], [0]], [1, 1]), ("BadReader", 1))
        self.assertEqual(fault(Reader, "ab", [[0, 0], [0, 0, 0]], [1, 1]), ("BadReader", 1))
        self.assertEqual(self.place_fault(moves=[(0, 0, 1, 2), (1, 1), (2, 2)]), ("BadReader", 1))

    def test_entries_that_have_to_be_none(self):
        moves = [(0, 0, 1, 2), (1, 1, 1, None), (2, 2, None, None)]
        self.assertEqual(self.place_fault(moves=moves), ("BadReader", 1))

    def test_entries_that_are_no_states(self):
        for entry in [-1, 2, 99, None]:
            self.assertEqual(fault(Reader, "ab", [[0, 1], [1, entry]], [1, 1]), ("BadReader", 1))

    def test_entries_to_a_wrong_left(self):
        self.assertEqual(self.place_fault(moves=[(1, 0, 1, 2), *PLACE["moves"][1:]]), ("BadReader", 0))
        self.assertEqual(self.place_fault(moves=[(0, 0, 1, 0), *PLACE["moves"][1:]]), ("BadReader", 0))

    def test_answers(self):
        self.assertEqual(self.place_fault(answers=[None, True, None]), ("BadReader", 2))
        self.assertEqual(self.place_fault(answers=[False, True, False]), ("BadReader", 0))

    def test_the_first_wrong_state_also_if_it_is_not_reached(self):
        self.assertEqual(fault(Reader, "a", [[0], [5], [None]], [1, 1, None]), ("BadReader", 1))

    def test_order_of_errors(self):
        self.assertEqual(fault(Reader, "", [], [], names=["1"]), ("BadAlphabet", ""))
        self.assertEqual(fault(Reader, "a", [], [], names=["x", "x"]), ("DoubleName", "x"))


class LeastFormTest(unittest.TestCase):
    def test_states_not_reached_are_left_out(self):
        reader = Reader("a", [[0], [0], [1]], [1, 2, 3])
        self.assertEqual((reader.moves, reader.answers, reader.lefts, reader.size), (((0,),), (1,), (0,), 1))

    def test_numbered_as_first_met(self):
        reader = Reader("ab", [[3, 1], [1, 2], [2, 2], [0, 3]], [0, 1, 2, 3])
        self.assertEqual(reader.moves, ((1, 2), (0, 1), (2, 3), (3, 3)))
        self.assertEqual(reader.answers, (0, 3, 1, 2))

    def test_states_that_are_alike(self):
        rows = [[1], [2], [3], [4], [5], [0]]
        reader = Reader("a", rows, ["u", "v", "w", "u", "v", "w"])
        self.assertEqual((reader.moves, reader.answers), (((1,), (2,), (0,)), ("u", "v", "w")))

    def test_alike_with_names_left(self):
        reader = Reader(
            "a", [(1, 2), (0, 3), (2, None), (3, None)], [None, None, 7, 7], names=("x",), lefts=(1, 1, 0, 0),
        )
        self.assertEqual((reader.moves, reader.answers, reader.lefts), (((0, 1), (1, None)), (None, 7), (1, 0)))

    def test_answers_are_compared_by_equality_and_keep_their_kinds(self):
        plain = Reader("a", [[1], [0]], [1, 0])
        truths = Reader("a", [[1], [0]], [True, False])
        self.assertEqual(repr(plain.answers), "(1, 0)")
        self.assertEqual(repr(truths.answers), "(True, False)")
        self.assertTrue(plain == truths)
        self.assertTrue(Reader("a", [[0]], [[[1], "a"]]) == Reader("a", [[0]], [((True,), "a")]))
        self.assertFalse(Reader("a", [[0]], [1]) == Reader("a", [[0]], ["1"]))
        self.assertFalse(Reader("a", [[0]], [(1,)]) == Reader("a", [[0]], [1]))

    def test_answers_six_deep(self):
        def deep(end):
            return [[[[[[end]]]]]]

        reader = Reader("a", [[1], [2], [0]], [deep(1), deep(2), deep(1)])
        self.assertEqual(reader.size, 3)
        self.assertEqual(reader.answers[0], ((((((1,),),),),),))
        self.assertEqual(Reader("a", [[1], [0]], [deep([]), deep(())]).size, 1)

    def test_random_descriptions_keep_their_answers(self):
        rng = random.Random(5)
        for names in [(), ("x",), ("y", "x"), ("u", "v", "w")]:
            for alphabet in ["a", "ab"]:
                for _ in range(25):
                    told = random_description(rng, alphabet, names, [0, 1], 4 - len(names))
                    self.check_description(told)

    def check_description(self, told):
        before = copy.deepcopy(told)
        reader = Reader(**told)
        self.assertEqual(told, before)
        names, moves = told["names"], told["moves"]
        for text, places in placed_texts(told["alphabet"], len(names), 5 if not names else 4 - len(names) // 2):
            wanted = described_answer(told["alphabet"], moves, told["answers"], names, text, places)
            self.assertEqual(reader(text, places), wanted)
        self.check_least(reader)

    def check_least(self, reader):
        again = Reader(reader.alphabet, reader.moves, reader.answers, names=reader.names, lefts=reader.lefts)
        self.assertEqual(again.moves, reader.moves)
        met = [0]
        for row in reader.moves:
            met.extend([entry for entry in dict.fromkeys(row) if entry is not None and entry not in met])
        self.assertEqual(met, list(range(reader.size)))
        # Plain refinement: as many classes as states, so no two states are alike.
        labels = list(zip(reader.lefts, reader.answers))
        for _ in range(reader.size):
            labels = [(labels[s], tuple(labels[e] if e is not None else None for e in reader.moves[s]))
                      for s in range(reader.size)]
            numbers = {label: n for n, label in enumerate(dict.fromkeys(labels))}
            labels = [numbers[label] for label in labels]
        self.assertEqual(len(set(labels)), reader.size)

    def test_the_same_answers_give_the_same_form(self):
        rng = random.Random(6)
        for names in [(), ("x",), ("x", "y")]:
            told = random_description(rng, "ab", names, [0, 1], 3)
            order = [0] + rng.sample(range(1, len(told["lefts"])), len(told["lefts"]) - 1)
            number = {old: new for new, old in enumerate(order)}
            moves = [[None if e is None else number[e] for e in told["moves"][s]] for s in order]
            other = Reader(
                "ab", moves, [told["answers"][s] for s in order], names=names, lefts=[told["lefts"][s] for s in order],
            )
            one = Reader(**told)
            self.assertTrue(one == other)
            self.assertEqual((one.moves, one.answers, one.lefts), (other.moves, other.answers, other.lefts))


class KeepingTest(unittest.TestCase):
    def test_tuples_at_every_level(self):
        reader = Reader(**{**PLACE, "moves": [list(row) for row in PLACE["moves"]], "answers": [None, [1, [2]], [3]]})
        for value in [reader.names, reader.moves, reader.answers, reader.lefts, reader.moves[0], reader.answers[1][1]]:
            self.assertIsInstance(value, tuple)
        self.assertEqual(reader.answers, (None, (1, (2,)), (3,)))

    def test_later_changes_have_no_effect(self):
        names, lefts, answers = ["x"], [1, 0, 0], [None, [1, [2]], 5]
        moves = [list(row) for row in PLACE["moves"]]
        reader = Reader("ab", moves, answers, names=names, lefts=lefts)
        names.append("y")
        lefts[0] = 0
        answers[1][1].append(3)
        answers.append(4)
        moves[0][0] = 2
        moves.clear()
        self.assertEqual((reader.names, reader.lefts, reader.size), (("x",), (1, 0, 0), 3))
        self.assertEqual(reader("ba", [1]), (1, (2,)))

    def test_what_was_passed_stays(self):
        told = {**PLACE, "moves": [list(row) for row in PLACE["moves"]], "answers": [None, [1, [2]], [1, [2]]]}
        before = copy.deepcopy(told)
        Reader(**told)
        self.assertEqual(told, before)


class CallTest(unittest.TestCase):
    def test_answers(self):
        reader = Reader(**PLACE)
        self.assertEqual([reader("ba", (1,)), reader("ba", [0]), reader("b", [0])], [True, False, False])

    def test_by_name(self):
        self.assertIs(Reader(**PLACE)(text="ba", places=[1]), True)
        self.assertEqual(one_state()(text="aaa"), 0)

    def test_several_names_at_one_place(self):
        reader = Reader(
            "a", [(0, 1, 2, 3), (1, None, 3, None), (2, 4, None, None), (3, None, None, None), (4, None, None, None)],
            [None, None, None, "not behind", "behind"], names=["x", "y"], lefts=[3, 2, 1, 0, 0],
        )
        self.assertEqual(reader("aa", (0, 0)), "not behind")
        self.assertEqual(reader("aa", (1, 0)), "behind")
        self.assertEqual(reader("aa", (0, 1)), "not behind")

    def test_the_empty_text(self):
        self.assertEqual(one_state()(""), 0)
        self.assertEqual(one_state()("", ()), 0)
        for places in [(), (0,), (-1,)]:
            self.assertEqual(fault(Reader(**PLACE), "", places), ("BadPlaces", places))

    def test_bad_texts(self):
        reader = Reader(**PLACE)
        self.assertEqual(fault(reader, "abcb", (0,)), ("BadText", "abcb", 2))
        self.assertEqual(fault(reader, "Ab", (0,)), ("BadText", "Ab", 0))
        self.assertEqual(fault(reader, "ab ", (9,)), ("BadText", "ab ", 2))

    def test_bad_places(self):
        reader = Reader(**PLACE)
        for places in [[], [0, 1], [2], [-1]]:
            self.assertEqual(fault(reader, "ab", places), ("BadPlaces", tuple(places)))
        self.assertEqual(fault(reader, "ab"), ("BadPlaces", ()))
        self.assertEqual(fault(one_state(), "a", [0]), ("BadPlaces", (0,)))


class EqualityTest(unittest.TestCase):
    def test_with_itself_and_other_kinds(self):
        reader = one_state()
        self.assertTrue(reader == reader)
        self.assertFalse(reader != one_state())
        for other in [None, 0, "", (), [reader], reader.moves]:
            self.assertFalse(reader == other)
            self.assertTrue(reader != other)

    def test_alphabets_names_and_answers_count(self):
        self.assertFalse(one_state("a") == one_state("b"))
        self.assertFalse(one_state("a", 0) == one_state("a", 1))
        self.assertFalse(Reader(**PLACE) == Reader(**{**PLACE, "names": ["y"]}))
        self.assertTrue(Reader(**PLACE) == Reader(**{**PLACE, "names": ("x",)}))


class BoundsTest(unittest.TestCase):
    def test_alphabets_and_names_of_all_lengths(self):
        self.assertEqual(one_state("a").moves, ((0,),))
        self.assertEqual(one_state("abcdef").moves, ((0,) * 6,))
        named = {**PLACE, "names": ["n" * 20]}
        self.assertEqual(Reader(**named).names, ("n" * 20,))

    def test_a_long_ring_of_states(self):
        count = 4000
        rows = [[(s + 1) % count, s] for s in range(count)]
        reader = Reader("ab", rows, [s == 0 for s in range(count)])
        self.assertEqual(reader.size, count)
        self.assertEqual(Reader("ab", rows, [s % 2 for s in range(count)]).size, 2)
        self.assertEqual(reader("a" * 400), False)

    def test_eight_names(self):
        names = [f"n{i}" for i in range(8)]
        lefts = [255 - s for s in range(256)]
        rows = []
        for left in lefts:
            rows.append([255 - (left - c) if c & left == c else None for c in range(256)])
        answers = [None] * 255 + ["all"]
        reader = Reader("a", rows, answers, names=names, lefts=lefts)
        self.assertEqual(reader.size, 256)
        self.assertEqual(reader("a" * 400, [0, 1, 2, 3, 3, 399, 399, 17]), "all")


if __name__ == "__main__":
    unittest.main()
