import copy
import itertools
import random
import types
import unittest

from tests.faults import fault
from tests.reference import placed_texts, random_description, texts_of, texts_up_to
from textloops.asking import count_texts, far_answer, first_text, placings, somewhere, texts
from textloops.readers import Reader
from textloops.watchers import containing, counting, ending, exactly, never_behind, scattered

LETTER_A = Reader(
    "ab", [(0, 0, 1, 2), (1, 1, None, None), (2, 2, None, None)], [None, True, False], names=["x"], lefts=[1, 0, 0],
)


def random_readers(seed, rounds, choices=((), ("x",), ("y", "x"), ("u", "v", "w"))):
    rng = random.Random(seed)
    for names in choices:
        for _ in range(rounds):
            alphabet = rng.choice(["a", "ab"])
            yield Reader(**random_description(rng, alphabet, names, [0, 1, 2], 2))


class FirstTextTest(unittest.TestCase):
    def test_random_readers(self):
        for reader in random_readers(21, 25):
            length = 5 - len(reader.names)
            for wished in [[0], [1], (1, 2), [2, 0]]:
                found = [
                    placed for placed in placed_texts(reader.alphabet, len(reader.names), length)
                    if reader(*placed) in wished
                ]
                got = first_text(reader, wished)
                if found:
                    self.assertEqual(got, found[0])
                else:
                    self.assertTrue(got is None or len(got[0]) > length)

    def test_no_answer_is_wished_or_there(self):
        self.assertIsNone(first_text(LETTER_A, []))
        self.assertIsNone(first_text(LETTER_A, ["a", 5, ()]))

    def test_wished_answers_are_compared_by_equality(self):
        self.assertEqual(first_text(LETTER_A, [1]), ("a", (0,)))
        self.assertEqual(first_text(LETTER_A, (1, 0)), ("a", (0,)))
        pairs = Reader("a", [[1], [1]], ["", ((1, "u"), ())])
        for wished in [[[[1, "u"], []]], (((True, "u"), ()),), [([1, "u"], ())]]:
            self.assertEqual(first_text(pairs, wished), ("a", ()))
        self.assertIsNone(first_text(pairs, [[1, "u"]]))

    def test_the_empty_text(self):
        self.assertEqual(first_text(ending("ab"), [""]), ("", ()))

    def test_a_far_text(self):
        ring = Reader("a", [[(s + 1) % 4000] for s in range(4000)], [s == 3999 for s in range(4000)])
        self.assertEqual(first_text(ring, [True]), ("a" * 3999, ()))


class CountTextsTest(unittest.TestCase):
    def test_random_readers(self):
        for reader in random_readers(22, 10):
            for length in range(5 - len(reader.names)):
                placed = [p for p in placed_texts(reader.alphabet, len(reader.names), length) if len(p[0]) == length]
                for wished in [[0], [1, 2], []]:
                    wanted = sum(reader(*p) in wished for p in placed)
                    self.assertEqual(count_texts(reader, wished, length), wanted)

    def test_length_zero(self):
        self.assertEqual(count_texts(ending("ab"), [""], 0), 1)
        self.assertEqual(count_texts(ending("ab"), ["a"], 0), 0)
        self.assertEqual(count_texts(LETTER_A, [True, False], 0), 0)

    def test_length_five_hundred(self):
        self.assertEqual(count_texts(ending("abc"), ["a"], 500), 3 ** 499)
        self.assertEqual(count_texts(LETTER_A, [True], 500), 500 * 2 ** 499)
        self.assertEqual(count_texts(LETTER_A, [1, 0], 500), 500 * 2 ** 500)

    def test_an_answer_wished_twice_counts_once(self):
        self.assertEqual(count_texts(never_behind("ab", "a", "b"), [True, 1, True], 5), 6)


class TextsTest(unittest.TestCase):
    def test_random_readers(self):
        for reader in random_readers(23, 40, choices=[()]):
            for wished in [[0], [1, 2], []]:
                wanted = [text for text in texts_up_to(reader.alphabet, 5) if reader(text) in wished]
                got = list(texts(reader, wished, most=len(wanted)))
                self.assertEqual(got, wanted)

    def test_finitely_many(self):
        self.assertEqual(list(texts(exactly("ab", "abba"), [True], most=10 ** 9)), ["abba"])
        self.assertEqual(list(texts(exactly("ab", ""), [True], most=2)), [""])
        self.assertEqual(list(texts(never_behind("a", "a", "a"), [True], most=99)), ["", "a"])
        self.assertEqual(list(texts(ending("ab"), ["x"], most=99)), [])
        self.assertEqual(list(texts(ending("ab"), [], most=99)), [])

    def test_finitely_many_of_several_lengths(self):
        rng = random.Random(3)
        for _ in range(20):
            words = sorted(rng.sample(texts_up_to("ab", 4), 4), key=lambda word: (len(word), word))
            numbers = {text: n for n, text in enumerate(texts_up_to("ab", 4))}
            rows = [[numbers.get(text + letter, 31) for letter in "ab"] for text in numbers] + [[31, 31]]
            reader = Reader("ab", rows, [text in words for text in numbers] + [False])
            self.assertEqual(list(texts(reader, [True], most=9)), words)
            self.assertEqual(list(texts(reader, [True], most=3)), words[:3])

    def test_most(self):
        self.assertEqual(list(texts(ending("ab"), ["a"], most=0)), [])
        self.assertEqual(list(texts(ending("ab"), ["a"], most=1)), ["a"])
        self.assertEqual(list(texts(ending("ab"), ["a"], most=4)), ["a", "aa", "ba", "aaa"])

    def test_lengths_far_from_one_another(self):
        found = list(texts(counting("a", "a", 12), [7], most=3))
        self.assertEqual(found, ["a" * 7, "a" * 19, "a" * 31])

    def test_a_generator(self):
        found = texts(ending("ab"), ["b"], most=10 ** 30)
        self.assertIsInstance(found, types.GeneratorType)
        self.assertEqual([next(found), next(found)], ["b", "ab"])

    def test_later_changes(self):
        wished = ["b"]
        found = texts(ending("ab"), wished, most=4)
        self.assertEqual(next(found), "b")
        wished[0] = "a"
        self.assertEqual(list(found), ["ab", "bb", "aab"])


class PlacingsTest(unittest.TestCase):
    def test_random_readers(self):
        for reader in random_readers(24, 12):
            for text in texts_up_to(reader.alphabet, 4):
                for wished in [[0], [1, 2], []]:
                    every = itertools.product(range(len(text)), repeat=len(reader.names))
                    wanted = [places for places in every if reader(text, places) in wished]
                    self.assertEqual(list(placings(reader, text, wished)), wanted)

    def test_without_names(self):
        self.assertEqual(list(placings(ending("ab"), "ab", ["b"])), [()])
        self.assertEqual(list(placings(ending("ab"), "", [""])), [()])
        self.assertEqual(list(placings(ending("ab"), "ab", ["a"])), [])

    def test_the_empty_text_with_names(self):
        self.assertEqual(list(placings(LETTER_A, "", [True, False])), [])

    def test_a_generator_that_raises_when_asked(self):
        found = placings(LETTER_A, "abc", [True])
        self.assertIsInstance(found, types.GeneratorType)
        self.assertEqual(fault(next, found), ("BadText", "abc", 2))

    def test_long_texts(self):
        self.assertEqual(list(placings(LETTER_A, "b" * 200 + "a" + "b" * 199, [True])), [(200,)])
        names = ["u", "v", "w"]
        lefts = [7 - s for s in range(8)]
        rows = [[s | c if not s & c else None for c in range(8)] for s in range(8)]
        free = Reader("a", rows, [None] * 7 + ["all"], names=names, lefts=lefts)
        found = placings(free, "a" * 400, ["all"])
        self.assertEqual([next(found) for _ in range(401)][-2:], [(0, 0, 399), (0, 1, 0)])


class SomewhereTest(unittest.TestCase):
    def test_random_readers(self):
        for reader in random_readers(25, 12):
            for wished in [[0], [1, 2], []]:
                found = somewhere(reader, wished)
                self.assertEqual(found.names, ())
                for text in texts_up_to(reader.alphabet, 5 if len(reader.names) < 3 else 3):
                    every = itertools.product(range(len(text)), repeat=len(reader.names))
                    wanted = any(reader(text, places) in wished for places in every)
                    self.assertIs(found(text), wanted)

    def test_without_names(self):
        self.assertEqual(somewhere(ending("ab"), ["a", ""]).answers, (True, False))
        self.assertEqual(somewhere(counting("a", "a", 2), [True]), Reader("a", [[1], [0]], [False, True]))

    def test_always_and_never(self):
        self.assertEqual(repr(somewhere(LETTER_A, []).answers), "(False,)")
        self.assertEqual(somewhere(LETTER_A, [1, 0]), Reader("ab", [[1, 1], [1, 1]], [False, True]))
        self.assertEqual(repr(somewhere(ending("a"), ["", "a"]).answers), "(True,)")


class FarAnswerTest(unittest.TestCase):
    def test_written_texts(self):
        rng = random.Random(26)
        for reader in random_readers(27, 30, choices=[()]):
            words = texts_of(reader.alphabet, 2) + ["", reader.alphabet]
            pieces = [(rng.choice(words), rng.randint(0, 9)) for _ in range(4)]
            self.assertEqual(far_answer(reader, pieces), reader("".join(word * times for word, times in pieces)))

    def test_no_pieces_and_empty_words(self):
        self.assertEqual(far_answer(ending("ab"), []), "")
        self.assertEqual(far_answer(ending("ab"), [("", 10 ** 40), ("ab", 0)]), "")

    def test_many_times(self):
        times = 10 ** 40
        self.assertEqual(far_answer(counting("a", "a", 12), [["aaa", times]]), 3 * times % 12)
        self.assertEqual(far_answer(counting("a", "a", 7), (["a", 10 ** 45 + 3], ("a", times))),
                         (10 ** 45 + 3 + times) % 7)
        self.assertIs(far_answer(scattered("ab", "a" * 40), [("a", 39), ("b", times)]), False)
        self.assertIs(far_answer(scattered("ab", "a" * 40), [("ab", times)]), True)

    def test_a_ring_behind_other_states(self):
        for begin in range(4):
            for length in range(1, 5):
                last = begin + length - 1
                rows = [[s + 1 if s < last else begin] for s in range(last + 1)]
                reader = Reader("a", rows, list(range(last + 1)))
                for times in range(20):
                    wanted = times if times < begin else begin + (times - begin) % length
                    self.assertEqual(far_answer(reader, [("a", times)]), wanted)
                    self.assertEqual(far_answer(reader, [("aaa", times), ("a", 2)]), reader("a" * (3 * times + 2)))

    def test_bad_words(self):
        self.assertEqual(fault(far_answer, ending("ab"), [("a", 1), ("abc", 0), ("d", 5)]), ("BadText", "abc", 2))
        self.assertEqual(fault(far_answer, ending("ab"), [["b", 10 ** 40], ["aB", 10 ** 40]]), ("BadText", "aB", 1))

    def test_large_rings(self):
        ring = Reader("a", [[(s + 1) % 4000] for s in range(4000)], list(range(4000)))
        self.assertEqual(far_answer(ring, [("a" * 39, 10 ** 40)]), 39 * 10 ** 40 % 4000)


class ArgumentsTest(unittest.TestCase):
    def test_by_name(self):
        watcher = containing("ab", "b")
        self.assertEqual(first_text(reader=watcher, wished=[True]), ("b", ()))
        self.assertEqual(count_texts(reader=watcher, wished=[True], length=1), 1)
        self.assertEqual(list(texts(reader=watcher, wished=[True], most=1)), ["b"])
        self.assertEqual(list(placings(reader=watcher, text="b", wished=[True])), [()])
        self.assertEqual(somewhere(reader=watcher, wished=[True]), watcher)
        self.assertEqual(far_answer(reader=watcher, pieces=[]), False)

    def test_what_is_passed_stays(self):
        wished, pieces = [[1, [2]], True], [["a", 2]]
        before = copy.deepcopy((wished, pieces))
        first_text(LETTER_A, wished)
        count_texts(LETTER_A, wished, 3)
        list(texts(ending("ab"), wished, most=3))
        list(placings(LETTER_A, "ab", wished))
        somewhere(LETTER_A, wished)
        far_answer(ending("ab"), pieces)
        self.assertEqual((wished, pieces), before)


if __name__ == "__main__":
    unittest.main()
