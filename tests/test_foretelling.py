import random
import unittest

from tests.faults import fault
from tests.reference import random_description, texts_up_to
from tests.runs import plain_print
from tests.shapes import AFTER_A, PAIRS
from tests.test_tables import NAMED, cases
from textloops.asking import far_answer, first_text
from textloops.foretelling import Verdict, foretell, printing, verdict
from textloops.programs import Program
from textloops.readers import Reader
from textloops.watchers import containing, counting, ending, exactly, never_behind, scattered
from textloops.writing import parse_program

COPY = Program("ab", "ab", [("for", "x", "up", [("copy", "x")])])
NONE = Reader("ab", [(0, 0)], [False])
ALL = Reader("ab", [(0, 0)], [True])


class ForetellTest(unittest.TestCase):
    def test_random_programs(self):
        for program, watcher in cases(500, 60):
            reader = foretell(program, watcher)
            self.assertEqual((reader.alphabet, reader.names), (program.reads, ()))
            for text in texts_up_to(program.reads, 4):
                self.assertEqual(reader(text), watcher(plain_print(program, text)))

    def test_answers_stand_as_the_watcher_has_them(self):
        watcher = Reader("c", [[1], [1]], [((), "a"), (1, ("u", True))])
        self.assertEqual(foretell(Program("ab", "c", [("print", "c")]), watcher).answers, ((1, ("u", True)),))
        self.assertEqual(foretell(AFTER_A, watcher).answers, (((), "a"), ((), "a"), (1, ("u", True))))

    def test_programs_that_print_nothing_or_always_the_same(self):
        self.assertEqual(foretell(Program("ab", "c", []), ending("c")), Reader("ab", [(0, 0)], [""]))
        self.assertEqual(foretell(Program("ab", "cd", [("print", "dc")]), ending("cd")), Reader("ab", [(0, 0)], ["c"]))

    def test_copying(self):
        for watcher in (containing("ab", "abba"), scattered("ab", "bab"), ending("ab"), counting("ab", "b", 12)):
            self.assertEqual(foretell(COPY, watcher), watcher)

    def test_a_watcher_with_many_states(self):
        word = "c" * 40
        reader = foretell(AFTER_A, exactly("c", word))
        self.assertEqual(first_text(reader, [True]), ("a" * 41, ()))
        ring = Reader("ab", [[(state + 1) % 300] * 2 for state in range(300)], list(range(300)))
        self.assertEqual(foretell(COPY, ring), ring)

    def test_far_texts(self):
        reader = foretell(PAIRS, counting("c", "c", 7))
        many = 10 ** 39
        self.assertEqual(far_answer(reader, [("ab", many)]), many * (many + 1) // 2 % 7)
        self.assertEqual(far_answer(reader, [("a", many), ("", 5), ("b", 3), ("ab", 0)]), 3 * many % 7)
        self.assertEqual(far_answer(reader, []), 0)
        self.assertEqual(fault(far_answer, reader, [("ab", 2), ("bc", 0)]), ("BadText", "bc", 1))

    def test_wrong_watchers(self):
        for wrong in (NAMED, ending("ab"), ending("bc")):
            self.assertEqual(fault(foretell, PAIRS, wrong), ("WrongWatcher",))


class VerdictTest(unittest.TestCase):
    def assertVerdict(self, program, watcher, wished, within, length):
        found = verdict(program, watcher, wished=wished, within=within)
        self.assertIsInstance(found, Verdict)
        keeping = breaking = None
        for text in texts_up_to(program.reads, length):
            if within is None or within(text):
                if watcher(plain_print(program, text)) in wished:
                    keeping = text if keeping is None else keeping
                else:
                    breaking = text if breaking is None else breaking
        for wanted, got in [(keeping, found.keeping), (breaking, found.breaking)]:
            if wanted is None:
                self.assertTrue(got is None or len(got) > length)
            else:
                self.assertEqual(got, wanted)
        word = "sure" if found.breaking is None else "never" if found.keeping is None else "open"
        self.assertEqual(found.word, word)
        return word

    def test_random_programs(self):
        words = []
        for number, (program, watcher) in enumerate(cases(600, 60)):
            rng = random.Random(number)
            limit = Reader(**random_description(rng, program.reads, [], [True, False], 4))
            for within in (None, limit):
                for wished in ([0], (1, "u"), []):
                    words.append(self.assertVerdict(program, watcher, wished, within, 4))
        self.assertEqual(set(words), {"sure", "never", "open"})

    def test_the_three_words(self):
        for wished, within, word, keeping, breaking in [
            ([True], None, "open", "", "aa"), ([False, True], None, "sure", "", None), ([], None, "never", None, ""),
            ([False], None, "open", "aa", ""), ([True], exactly("ab", "aa"), "never", None, "aa"),
            ([False], exactly("ab", "baab"), "sure", "baab", None), ([True], ALL, "open", "", "aa"),
            ([True], NONE, "sure", None, None), ([], NONE, "sure", None, None),
        ]:
            found = verdict(AFTER_A, exactly("c", ""), wished=wished, within=within)
            self.assertEqual([found.word, found.keeping, found.breaking], [word, keeping, breaking])

    def test_answers_are_compared_by_equality(self):
        found = verdict(COPY, counting("ab", "a", 2), wished=[True])
        self.assertEqual([found.word, found.keeping, found.breaking], ["open", "a", ""])
        pairs = Reader("ab", [(1, 0), (1, 1)], [(0, ("u",)), ()])
        for wished in ([[False, ["u"]]], ([0, ("u",)],)):
            found = verdict(COPY, pairs, wished=wished)
            self.assertEqual([found.word, found.keeping, found.breaking], ["open", "", "a"])

    def test_what_is_passed_stays(self):
        wished = [[0, ["u"]], "a"]
        limit = containing("ab", "b")
        verdict(COPY, ending("ab"), wished=wished, within=limit)
        self.assertEqual((wished, limit), ([[0, ["u"]], "a"], containing("ab", "b")))

    def test_a_far_text(self):
        found = verdict(COPY, counting("ab", "ab", 12), wished=list(range(11)))
        self.assertEqual([found.word, found.keeping, found.breaking], ["open", "", "a" * 11])
        block = [("print", "c")]
        for name in "klmn":
            block = [("if", ("mark", name), [("clear", name), *block], [("set", name)])]
        block = [("for", "x", "down", block)]
        for name in "klmn":
            block = [("mark", name, block)]
        counter = Program("ab", "c", block)
        found = verdict(counter, exactly("c", ""), wished=[True])
        self.assertEqual([found.word, found.keeping, found.breaking], ["open", "", "a" * 16])
        found = verdict(counter, exactly("c", ""), wished=[True], within=scattered("ab", "bbbb"))
        self.assertEqual([found.keeping, found.breaking], ["bbbb", "a" * 12 + "bbbb"])

    def test_errors(self):
        named = Reader("ab", [(0, 0, 1, 1), (1, 1, None, None)], [None, True], names=["x"], lefts=[1, 0])
        limits = [named, ending("ab"), exactly("abc", "a"), Reader("a", [[0]], [True])]
        limits.append(Reader("ab", [(1, 1), (2, 2), (2, 2)], [True, "u", False]))
        for within in limits:
            self.assertEqual(fault(verdict, PAIRS, ending("c"), wished=[], within=within), ("WrongLimit",))
            self.assertEqual(fault(verdict, PAIRS, ending("ab"), wished=[], within=within), ("WrongWatcher",))
        for within in (None, ALL, NONE, containing("ab", "b")):
            self.assertIsNone(fault(verdict, PAIRS, ending("c"), wished=[], within=within))
            self.assertEqual(fault(verdict, PAIRS, NAMED, wished=[], within=within), ("WrongWatcher",))

    def test_verdicts_are_made_of_their_fields(self):
        made = Verdict("open", "a", "")
        self.assertEqual([made.word, made.keeping, made.breaking], ["open", "a", ""])
        made = Verdict(word="never", keeping=None, breaking="b")
        self.assertEqual([made.word, made.keeping, made.breaking], ["never", None, "b"])


class PrintingTest(unittest.TestCase):
    def test_random_programs(self):
        for number, (program, _) in enumerate(cases(700, 40)):
            rng = random.Random(number)
            words = ["", *[plain_print(program, rng.choice(texts_up_to(program.reads, 3)))[:40] for _ in range(2)]]
            for word in words:
                reader = printing(program, word)
                for text in texts_up_to(program.reads, 4):
                    self.assertIs(reader(text), plain_print(program, text) == word)

    def test_the_empty_word(self):
        self.assertEqual(printing(PAIRS, ""), never_behind("ab", "a", "b"))
        self.assertEqual(printing(COPY, ""), exactly("ab", ""))
        self.assertEqual(printing(Program("ab", "c", [("print", "c")]), ""), NONE)
        self.assertEqual(printing(Program("ab", "c", []), ""), ALL)

    def test_a_word_of_forty_letters(self):
        self.assertEqual(printing(COPY, "ab" * 20), exactly("ab", "ab" * 20))
        program = parse_program("reads a prints ab\nfor x up:\n  print aba")
        self.assertEqual(first_text(printing(program, "aba" * 13), [True]), ("a" * 13, ()))
        self.assertIsNone(first_text(printing(program, "ab" * 20), [True]))

    def test_wrong_words(self):
        self.assertEqual(fault(printing, PAIRS, "cca"), ("BadText", "cca", 2))
        self.assertEqual(fault(printing, PAIRS, "C"), ("BadText", "C", 0))

    def test_parameters_by_name(self):
        self.assertEqual(printing(program=COPY, word="a"), exactly("ab", "a"))
        self.assertEqual(foretell(program=COPY, watcher=ending("ab")), ending("ab"))
        self.assertEqual(verdict(program=COPY, watcher=ending("ab"), wished=["a"]).keeping, "a")


if __name__ == "__main__":
    unittest.main()
