import copy
import random
import unittest

from tests.faults import fault
from tests.reference import placed_texts, random_description
from textloops.comparing import paired, parting, relabelled
from textloops.readers import Reader


def ring(answers, alphabet="a", step=1):
    count = len(answers)
    return Reader(alphabet, [[(s + step) % count] * len(alphabet) for s in range(count)], answers)


def placing(answers=(True, False), names=("x",)):
    """Answers the first one if the letter at the place is `a`."""
    return Reader(
        "ab", [(0, 0, 1, 2), (1, 1, None, None), (2, 2, None, None)], [None, *answers], names=names, lefts=[1, 0, 0],
    )


def random_readers(seed, rounds):
    rng = random.Random(seed)
    for names in [(), ("x",), ("y", "x")]:
        for _ in range(rounds):
            alphabet = rng.choice(["a", "ab"])
            yield [Reader(**random_description(rng, alphabet, names, [0, 1], 2)) for _ in range(2)]


class PartingTest(unittest.TestCase):
    def test_equal_readers(self):
        self.assertIsNone(parting(ring([0, 1]), ring([0, 1, 0, 1])))
        self.assertIsNone(parting(ring([0, 1]), ring([False, True])))
        reader = placing()
        self.assertIsNone(parting(reader, reader))

    def test_the_empty_text(self):
        self.assertEqual(parting(ring([0]), ring([1])), ("", ()))

    def test_names(self):
        self.assertEqual(parting(placing(), placing((True, True))), ("b", (0,)))

    def test_least_placed_text(self):
        for one, two in random_readers(11, 60):
            wanted = None
            for text, places in placed_texts(one.alphabet, len(one.names), 6 - len(one.names)):
                if one(text, places) != two(text, places):
                    wanted = (text, places)
                    break
            found = parting(one, two)
            if wanted is None:
                # Two readers of this size part within the lengths looked at, or far behind them.
                self.assertTrue(found is None or len(found[0]) > 6 - len(one.names))
            else:
                self.assertEqual(found, wanted)
            self.assertEqual(found is None, one == two)

    def test_different_readers(self):
        for other in [ring([0], "b"), ring([0], "ab"), placing()]:
            self.assertEqual(fault(parting, ring([0]), other), ("DifferentReaders",))
        self.assertEqual(fault(parting, placing(), placing(names=("y",))), ("DifferentReaders",))

    def test_by_name(self):
        self.assertIsNone(parting(one=ring([0]), two=ring([0])))

    def test_large_rings(self):
        one = ring([s == 3998 for s in range(3999)])
        two = ring([s == 3998 for s in range(4000)])
        self.assertEqual(parting(one, two), ("a" * 7997, ()))


class PairedTest(unittest.TestCase):
    def test_answers_are_pairs(self):
        reader = paired(ring([0, 1]), ring(["u", "v", "w"]))
        self.assertEqual(reader.size, 6)
        self.assertEqual([reader("a" * n) for n in range(4)], [(0, "u"), (1, "v"), (0, "w"), (1, "u")])

    def test_names_and_kinds(self):
        reader = paired(placing(), placing(((1, 2), [3])))
        self.assertEqual((reader.names, reader.lefts), (("x",), (1, 0, 0)))
        self.assertEqual(repr(reader.answers), "(None, (True, (1, 2)), (False, (3,)))")

    def test_truths_beside_numbers(self):
        reader = paired(ring([True, False]), ring([1, 0]))
        self.assertEqual(repr(reader.answers), "((True, 1), (False, 0))")

    def test_random_readers(self):
        for one, two in random_readers(12, 20):
            both = paired(one, two)
            for text, places in placed_texts(one.alphabet, len(one.names), 4):
                self.assertEqual(both(text, places), (one(text, places), two(text, places)))

    def test_different_readers(self):
        self.assertEqual(fault(paired, ring([0]), ring([0], "b")), ("DifferentReaders",))
        self.assertEqual(fault(paired, placing(), ring([0], "ab")), ("DifferentReaders",))

    def test_by_name(self):
        self.assertEqual(paired(one=ring([0]), two=ring([1])).answers, ((0, 1),))

    def test_pairs_of_pairs(self):
        reader = ring([0, 1])
        for _ in range(12):
            reader = paired(reader, reader)
        self.assertEqual(reader.size, 2)
        self.assertEqual(relabelled(reader, [(reader.answers[1], "new")]).answers[1], "new")


class RelabelledTest(unittest.TestCase):
    def test_answers_listed_and_not_listed(self):
        self.assertEqual(relabelled(ring([0, 1, 2]), [(1, "one"), (7, "seven")]).answers, (0, "one", 2))
        self.assertEqual(relabelled(ring([0, 1, 2]), []), ring([0, 1, 2]))

    def test_the_first_pair_counts(self):
        self.assertEqual(relabelled(ring([0, 1]), [(0, "u"), (0, "v"), (1, "w"), (1, 1)]).answers, ("u", "w"))

    def test_all_at_once(self):
        self.assertEqual(relabelled(ring([0, 1, 2]), [(0, 1), (1, 2), (2, 0)]).answers, (1, 2, 0))

    def test_whole_answers_only(self):
        self.assertEqual(relabelled(ring([0, (0, 1)]), [(0, 5)]).answers, (5, (0, 1)))
        self.assertEqual(relabelled(ring([0, (0, 1)]), [[[0, 1], [[2]]]]).answers, (0, ((2,),)))

    def test_kinds(self):
        self.assertEqual(repr(relabelled(ring([0, 1]), [(0, False), (1, True)]).answers), "(False, True)")
        self.assertEqual(repr(relabelled(ring([0, 1]), [(False, "u"), (True, "v")]).answers), "('u', 'v')")

    def test_least_form(self):
        reader = relabelled(ring([0, 1, 2, 3]), [(2, 0), (3, 1)])
        self.assertEqual((reader.moves, reader.answers), (((1,), (0,)), (0, 1)))

    def test_names(self):
        reader = relabelled(placing(), [(True, "a"), (False, "b")])
        self.assertEqual((reader("ab", [0]), reader("ab", [1]), reader.names), ("a", "b", ("x",)))

    def test_what_is_passed(self):
        old, pairs = ring([0, 1]), [[0, [1, [2]]]]
        before = copy.deepcopy(pairs)
        reader = relabelled(reader=old, pairs=pairs)
        self.assertEqual(pairs, before)
        pairs[0][1][1].append(3)
        self.assertEqual((reader.answers, old.answers), (((1, (2,)), 1), (0, 1)))


if __name__ == "__main__":
    unittest.main()
