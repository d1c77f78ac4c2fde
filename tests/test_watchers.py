import unittest

from tests.faults import fault
from tests.reference import texts_up_to
from textloops.readers import Reader
from textloops.watchers import containing, counting, ending, exactly, never_behind, scattered


class WatcherTest(unittest.TestCase):
    def check(self, watcher, wanted, length=6):
        """The watcher answers as told, with the same kind of value, and is in least form."""
        for text in texts_up_to(watcher.alphabet, length):
            self.assertEqual(repr(watcher(text)), repr(wanted(text)), text)
        self.assertEqual(watcher.names, ())
        self.assertEqual(Reader(watcher.alphabet, watcher.moves, watcher.answers).moves, watcher.moves)

    def test_exactly(self):
        for alphabet in ["a", "ab"]:
            for word in texts_up_to(alphabet, 3):
                self.check(exactly(alphabet, word), lambda text: text == word)
        self.assertEqual(exactly("ab", "aba").size, 5)

    def test_containing(self):
        for word in texts_up_to("ab", 4) + ["aabaa", "ababa", "aabaaab"]:
            self.check(containing("ab", word), lambda text: word in text, 8)
            self.assertEqual(containing("ab", word).size, len(word) + 1)
        self.check(containing("a", "aa"), lambda text: "aa" in text)
        self.check(containing("abc", "abcab"), lambda text: "abcab" in text)

    def test_scattered(self):
        def stands_in(word, text):
            rest = iter(text)
            return all(letter in rest for letter in word)

        for word in texts_up_to("ab", 4):
            self.check(scattered("ab", word), lambda text: stands_in(word, text))
        self.check(scattered("abc", "cab"), lambda text: stands_in("cab", text))

    def test_counting(self):
        for letters in ["a", "b", "ab"]:
            for modulus in [1, 2, 3, 12]:
                self.check(
                    counting("ab", letters, modulus), lambda text: sum(c in letters for c in text) % modulus, 8,
                )
        self.assertEqual(counting("abc", "ac", 12)("ab" * 30 + "c" * 5), 35 % 12)

    def test_ending(self):
        for alphabet in ["a", "ab", "abcdef"]:
            self.check(ending(alphabet), lambda text: text[-1:], 4)

    def test_never_behind(self):
        def holds(text, first, second):
            return not any(text[i] == first and second in text[i + 1:] for i in range(len(text)))

        for first in "ab":
            for second in "ab":
                self.check(never_behind("ab", first, second), lambda text: holds(text, first, second))
        self.assertIs(never_behind("ab", "a", "a")("a"), True)
        self.assertIs(never_behind("ab", "a", "a")("aba"), False)

    def test_long_words(self):
        word = "aab" * 13 + "a"
        self.assertEqual([exactly("ab", word)(word), exactly("ab", word)(word + "a")], [True, False])
        self.assertEqual([containing("ab", word)("a" + word + "b"), containing("ab", word)(word[1:])], [True, False])


class ErrorsTest(unittest.TestCase):
    def test_bad_alphabets_first(self):
        for call in [
            lambda: exactly("ba", "x"), lambda: containing("ba", "x"), lambda: scattered("ba", "x"),
            lambda: counting("ba", "x", 2), lambda: ending("ba"), lambda: never_behind("ba", "x", "x"),
        ]:
            self.assertEqual(fault(call), ("BadAlphabet", "ba"))

    def test_bad_words(self):
        for make in [exactly, containing, scattered]:
            self.assertEqual(fault(make, "ab", "abca"), ("BadText", "abca", 2))

    def test_bad_letters(self):
        for letters in ["", "ba", "aa", "abd", "d", "a b"]:
            self.assertEqual(fault(counting, "abc", letters, 2), ("BadLetters", letters))

    def test_bad_first_and_second(self):
        self.assertEqual(fault(never_behind, "ab", "x", "y"), ("BadText", "x", 0))
        self.assertEqual(fault(never_behind, "ab", "a", "y"), ("BadText", "y", 0))

    def test_by_name(self):
        self.assertEqual(exactly(alphabet="a", word="a"), exactly("a", "a"))
        self.assertEqual(containing(alphabet="a", word="a"), containing("a", "a"))
        self.assertEqual(scattered(alphabet="a", word="a"), scattered("a", "a"))
        self.assertEqual(counting(alphabet="a", letters="a", modulus=2), counting("a", "a", 2))
        self.assertEqual(ending(alphabet="a"), ending("a"))
        self.assertEqual(never_behind(alphabet="a", first="a", second="a"), never_behind("a", "a", "a"))


if __name__ == "__main__":
    unittest.main()
