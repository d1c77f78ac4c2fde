import unittest

from tests.faults import fault
from tests.reference import texts_up_to
from tests.runs import plain_print
from tests.shapes import AFTER_A, PAIRS
from textloops.asking import first_text
from textloops.comparing import paired
from textloops.desk import Desk, Trial, perform
from textloops.errors import Broken, LoopError, Missing
from textloops.foretelling import foretell
from textloops.joining import behind, copying, row_of
from textloops.programs import Program
from textloops.readers import Reader
from textloops.turning import turned
from textloops.watchers import containing, counting, ending, exactly, never_behind

DOUBLE = Program("ab", "ab", [("for", "x", "up", [("copy", "x"), ("copy", "x")])])
TO_C = Program("ab", "c", [("for", "x", "up", [("print", "c")])])


def contents(desk):
    return {name: desk.entry(name) for name in desk.entry_names()}


def filled():
    """A desk with two programs, two watchers and two wishes."""
    desk = Desk()
    desk.put_program("copy1", copying("ab"))
    desk.put_program("double", DOUBLE)
    desk.put_watcher("even", counting("ab", "ab", 2))
    desk.put_watcher("hasb", containing("ab", "b"))
    desk.put_wish("w", ["copy1", "double"], "even", wished=[0])
    desk.put_wish("any", ("copy1",), "hasb", wished=(True, False))
    return desk


class DeskTest(unittest.TestCase):
    def assertUnchanged(self, wanted, desk, function, *rest, **more):
        """The call raises the error and leaves the desk as it was."""
        before = contents(desk)
        self.assertEqual(fault(function, *rest, **more), wanted)
        self.assertEqual(contents(desk), before)

    def test_entries(self):
        desk = filled()
        self.assertEqual(desk.entry_names(), ("any", "copy1", "double", "even", "hasb", "w"))
        self.assertEqual(desk.entry("copy1"), copying("ab"))
        self.assertEqual(desk.entry("hasb"), containing("ab", "b"))
        self.assertEqual(desk.entry(name="w"), (("copy1", "double"), "even", (0,)))
        self.assertEqual(desk.entry("any"), (("copy1",), "hasb", (True, False)))
        self.assertEqual(Desk().entry_names(), ())
        for name in ("q", "", "Copy", "1"):
            self.assertUnchanged(("UnknownName", name), desk, desk.entry, name)

    def test_deeds_return_none(self):
        desk = Desk()
        self.assertIsNone(desk.put_program(name="p", program=copying("ab")))
        self.assertIsNone(desk.put_watcher(name="v", watcher=ending("ab")))
        self.assertIsNone(desk.put_wish(name="w", row=["p"], watcher="v", wished=["", "a", "b"]))
        self.assertIsNone(desk.strike(name="w"))
        self.assertEqual(desk.entry_names(), ("p", "v"))

    def test_alphabetical_order_of_names(self):
        desk = Desk()
        for name in ("b", "ab", "a1", "a", "a10", "aa", "b0"):
            desk.put_watcher(name, ending("a"))
        self.assertEqual(desk.entry_names(), ("a", "a1", "a10", "aa", "ab", "b", "b0"))

    def test_what_is_passed_is_copied(self):
        desk = filled()
        row, wished = ["double"], [[1, [2]], 0]
        desk.put_wish("v", row, "even", wished=wished)
        row.append("q")
        wished[0][1].append(3)
        self.assertEqual(desk.entry("v"), (("double",), "even", ((1, (2,)), 0)))

    def test_replacing(self):
        desk = filled()
        desk.put_program("copy1", turned(copying("ab")))
        self.assertEqual(desk.foretold(["copy1"], "hasb"), containing("ab", "b"))
        desk.put_watcher("hasb", containing("ab", "ba"))
        self.assertTrue(desk.foretold(["copy1"], "hasb")("ab"))
        desk.put_wish("w", ["double"], "even", wished=[0, 1])
        desk.put_program("double", copying("ab"))
        self.assertEqual(desk.entry("double"), copying("ab"))
        self.assertUnchanged(("Broken", "w", "a"), desk, desk.put_wish, "w", ["double"], "even", wished=[0])

    def test_names(self):
        desk = filled()
        for name in ("", "A", "1a", "for", "a" * 21, "a_b"):
            self.assertUnchanged(("BadName", name), desk, desk.put_program, name, copying("ab"))
            self.assertUnchanged(("BadName", name), desk, desk.put_watcher, name, ending("ab"))
            self.assertUnchanged(("BadName", name), desk, desk.put_wish, name, ["q"], "q", wished=[])
            self.assertUnchanged(("UnknownName", name), desk, desk.strike, name)
        for name in ("even", "w"):
            self.assertUnchanged(("NameInUse", name), desk, desk.put_program, name, copying("ab"))
        for name in ("copy1", "any"):
            self.assertUnchanged(("NameInUse", name), desk, desk.put_watcher, name, ending("ab"))
        for name in ("double", "hasb"):
            self.assertUnchanged(("NameInUse", name), desk, desk.put_wish, name, ["q"], "q", wished=[])

    def test_wishes_that_miss_something(self):
        desk = filled()
        for row, watcher, name in (
            (["q", "r"], "s", "q"), (["copy1", "even", "r"], "s", "even"), (["copy1"], "double", "double"),
            (["any"], "even", "any"), (["copy1"], "w", "w"), (["new"], "even", "new"), (["copy1"], "", ""),
        ):
            self.assertUnchanged(("Missing", "new", name), desk, desk.put_wish, "new", row, watcher, wished=[])
        self.assertUnchanged(("Missing", "any", "copy1"), desk, desk.strike, "copy1")
        self.assertUnchanged(("Missing", "w", "double"), desk, desk.strike, "double")
        self.assertUnchanged(("Missing", "w", "even"), desk, desk.strike, "even")
        desk.strike("w")
        desk.strike("even")
        desk.strike("double")
        self.assertEqual(desk.entry_names(), ("any", "copy1", "hasb"))

    def test_wishes_whose_rows_do_not_fit(self):
        desk = filled()
        desk.put_program("toc", TO_C)
        desk.put_watcher("cs", counting("c", "c", 3))
        for row, watcher in ((["toc", "copy1"], "even"), (["copy1", "toc"], "even"), (["copy1"], "cs"), (["toc"] * 2, "cs")):
            self.assertUnchanged(("UnfitRow", "new"), desk, desk.put_wish, "new", row, watcher, wished=[])
        self.assertUnchanged(("UnfitRow", "any"), desk, desk.put_program, "copy1", copying("abc"))
        self.assertUnchanged(("UnfitRow", "any"), desk, desk.put_watcher, "hasb", containing("b", "b"))
        self.assertUnchanged(("UnfitRow", "w"), desk, desk.put_program, "double", TO_C)
        self.assertUnchanged(("Missing", "new", "q"), desk, desk.put_wish, "new", ["toc", "copy1"], "q", wished=[])

    def test_broken_wishes_and_their_order(self):
        desk = filled()
        self.assertUnchanged(("Broken", "new", ""), desk, desk.put_wish, "new", ["copy1"], "hasb", wished=[])
        self.assertUnchanged(("Broken", "new", ""), desk, desk.put_wish, "new", ["copy1"], "hasb", wished=[True])
        self.assertUnchanged(("Broken", "new", "b"), desk, desk.put_wish, "new", ["copy1"], "hasb", wished=[0, 2, "q"])
        self.assertUnchanged(("Broken", "w", "a"), desk, desk.put_program, "double", copying("ab"))
        desk.put_wish("a2", ["double"], "even", wished=[False])
        self.assertUnchanged(("Broken", "a2", "a"), desk, desk.put_program, "double", copying("ab"))
        desk.put_wish("z", ["double"], "even", wished=[0])
        desk.strike("a2")
        self.assertUnchanged(("Broken", "w", "a"), desk, desk.put_program, "double", copying("ab"))
        # A wish with a name further in front misses something sooner than another one is broken.
        desk.put_wish("aa", ["double"], "hasb", wished=[True, False])
        self.assertUnchanged(("UnfitRow", "aa"), desk, desk.put_program, "double", TO_C)
        self.assertUnchanged(("Missing", "aa", "double"), desk, desk.strike, "double")

    def test_least_texts_of_broken_wishes(self):
        desk = Desk()
        for name, program in (("pairs", PAIRS), ("after", AFTER_A)):
            desk.put_program(name, program)
        for word in ("c", "cc", "ccc"):
            desk.put_watcher("has", containing("c", word))
            for name, program in (("pairs", PAIRS), ("after", AFTER_A)):
                wanted = next(text for text in texts_up_to("ab", 6) if word in plain_print(program, text))
                self.assertUnchanged(("Broken", "v", wanted), desk, desk.put_wish, "v", [name], "has", wished=[False])

    def test_foretold(self):
        desk = filled()
        desk.put_program("pairs", PAIRS)
        desk.put_program("turn", turned(copying("ab")))
        desk.put_watcher("cs", counting("c", "c", 3))
        for row in (["pairs"], ["turn", "pairs"], ["double", "turn", "pairs"], ["double", "double", "pairs"]):
            reader = desk.foretold(row, "cs")
            whole = row_of([desk.entry(name) for name in row])
            self.assertEqual(reader.names, ())
            for text in texts_up_to("ab", 4):
                self.assertEqual(reader(text), len(plain_print(whole, text)) % 3)
            self.assertEqual(reader, foretell(whole, counting("c", "c", 3)))
        self.assertEqual(desk.foretold(row=("copy1",), watcher="hasb"), containing("ab", "b"))
        for row, watcher, name in ((["q"], "r", "q"), (["pairs", "cs"], "cs", "cs"), (["pairs"], "pairs", "pairs")):
            self.assertUnchanged(("Missing", "", name), desk, desk.foretold, row, watcher)
        for row, watcher in ((["pairs"], "even"), (["pairs", "copy1"], "even"), (["copy1"], "cs")):
            self.assertUnchanged(("UnfitRow", ""), desk, desk.foretold, row, watcher)
        self.assertUnchanged(("Missing", "", "q"), desk, desk.foretold, ["pairs", "pairs"], "q")

    def test_desks_do_not_share_entries(self):
        one, two = filled(), filled()
        one.strike("w")
        self.assertIn("w", two.entry_names())


class OwnError(Exception):
    pass


class TrialTest(unittest.TestCase):
    def test_an_error_leads_back(self):
        for error in (OwnError, KeyError, ValueError, KeyboardInterrupt, SystemExit, GeneratorExit):
            desk = filled()
            before = contents(desk)
            with self.assertRaises(error):
                with Trial(desk):
                    desk.strike("any")
                    desk.put_program("copy1", DOUBLE)
                    desk.put_watcher("new", ending("ab"))
                    raise error()
            self.assertEqual(contents(desk), before)

    def test_without_an_error_all_stays(self):
        desk = filled()
        with Trial(desk=desk) as trial:
            self.assertIsInstance(trial, Trial)
            self.assertIs(trial.desk, desk)
            desk.strike("any")
        self.assertNotIn("any", desk.entry_names())
        self.assertIs(Trial(desk).desk, desk)

    def test_the_error_itself_goes_on(self):
        desk = filled()
        with self.assertRaises(Missing) as caught:
            with Trial(desk):
                desk.strike("any")
                desk.strike("even")
        self.assertEqual((caught.exception.wish, caught.exception.name), ("w", "even"))
        self.assertIn("any", desk.entry_names())

    def test_errors_that_are_caught_within(self):
        desk = filled()
        with Trial(desk):
            desk.strike("any")
            self.assertEqual(fault(desk.strike, "even"), ("Missing", "w", "even"))
        self.assertEqual(desk.entry_names(), ("copy1", "double", "even", "hasb", "w"))

    def test_trials_within_one_another(self):
        desk = filled()
        with Trial(desk):
            desk.strike("any")
            middle = contents(desk)
            with self.assertRaises(OwnError):
                with Trial(desk):
                    desk.strike("w")
                    with Trial(desk):
                        desk.strike("even")
                    raise OwnError()
            self.assertEqual(contents(desk), middle)
        self.assertEqual(contents(desk), middle)
        before = contents(filled())
        desk = filled()
        with self.assertRaises(OwnError):
            with Trial(desk):
                with Trial(desk):
                    desk.strike("any")
                desk.strike("w")
                raise OwnError()
        self.assertEqual(contents(desk), before)

    def test_a_trial_used_again(self):
        desk = filled()
        trial = Trial(desk)
        with trial:
            desk.strike("any")
        with self.assertRaises(OwnError):
            with trial:
                desk.strike("w")
                raise OwnError()
        self.assertEqual(desk.entry_names(), ("copy1", "double", "even", "hasb", "w"))


class PerformTest(unittest.TestCase):
    DEEDS = [
        ("program", "p", copying("ab")), ["watcher", "v", never_behind("ab", "b", "a")],
        ("wish", "u", ["p"], "v", [True, False]), ("program", "q", DOUBLE), ("strike", "q"),
    ]

    def test_deeds(self):
        for late in (False, True):
            desk = Desk()
            self.assertIsNone(perform(desk, self.DEEDS, late=late))
            self.assertEqual(desk.entry_names(), ("p", "u", "v"))
            self.assertEqual(desk.entry("u"), (("p",), "v", (True, False)))
            self.assertIsNone(perform(desk=desk, deeds=(), late=late))
            self.assertEqual(desk.entry_names(), ("p", "u", "v"))

    def test_wishes_that_are_broken_on_the_way(self):
        deeds = [
            ("wish", "u", ["p"], "v", [0]), ("watcher", "v", counting("ab", "ab", 2)), ("program", "p", copying("ab")),
            ("program", "p", DOUBLE),
        ]
        desk = Desk()
        self.assertEqual(fault(perform, desk, deeds), ("Missing", "u", "p"))
        self.assertEqual(desk.entry_names(), ())
        self.assertIsNone(perform(desk, deeds, late=True))
        self.assertEqual(desk.entry_names(), ("p", "u", "v"))
        self.assertEqual(fault(perform, desk, [("program", "p", copying("ab")), ("strike", "u")]), ("Broken", "u", "a"))
        self.assertEqual(desk.entry("p"), DOUBLE)
        self.assertIsNone(perform(desk, [("program", "p", copying("ab")), ("strike", "u")], late=True))
        self.assertEqual(contents(desk), {"p": copying("ab"), "v": counting("ab", "ab", 2)})

    def test_late_errors(self):
        desk = filled()
        before = contents(desk)
        for deeds, wanted in (
            ([("program", "double", copying("ab"))], ("Broken", "w", "a")),
            ([("strike", "even"), ("program", "double", copying("ab"))], ("Missing", "w", "even")),
            ([("strike", "copy1"), ("strike", "copy1")], ("UnknownName", "copy1")),
            ([("strike", "any"), ("watcher", "copy1", ending("ab"))], ("NameInUse", "copy1")),
            ([("strike", "copy1"), ("watcher", "copy1", ending("ab"))], ("Missing", "any", "copy1")),
            ([("strike", "even"), ("program", "1", copying("ab"))], ("BadName", "1")),
            ([("wish", "z", ["q"], "q", []), ("wish", "a", ["r"], "r", [])], ("Missing", "a", "r")),
            ([("strike", "hasb"), ("strike", "even")], ("Missing", "any", "hasb")),
        ):
            self.assertEqual(fault(perform, desk, deeds, late=True), wanted)
            self.assertEqual(contents(desk), before)

    def test_an_error_in_the_middle(self):
        desk = filled()
        before = contents(desk)
        deeds = [("strike", "any"), ("watcher", "new", ending("ab")), ("program", "new", DOUBLE), ("strike", "q")]
        for late in (False, True):
            self.assertEqual(fault(perform, desk, deeds, late=late), ("NameInUse", "new"))
            self.assertEqual(contents(desk), before)
        with self.assertRaises(LoopError):
            with Trial(desk):
                perform(desk, [("strike", "any")])
                desk.strike("q")
        self.assertEqual(contents(desk), before)

    def test_a_name_that_changes_its_kind(self):
        desk = filled()
        perform(desk, [("strike", "w"), ("strike", "even"), ("program", "even", DOUBLE), ("watcher", "w", ending("ab"))])
        self.assertEqual([desk.entry("even"), desk.entry("w")], [DOUBLE, ending("ab")])

    def test_what_is_foretold_holds_for_wishes(self):
        desk = filled()
        desk.put_program("turn", turned(copying("ab")))
        desk.put_watcher("last", ending("ab"))
        desk.put_watcher("first", Reader("ab", [(1, 2), (1, 1), (2, 2)], ["", "a", "b"]))
        both = paired(desk.foretold(["turn"], "last"), desk.foretold(["copy1"], "first"))
        self.assertIsNone(first_text(both, [("a", "b"), ("b", "a"), ("", "a"), ("a", "")]))
        with self.assertRaises(Broken) as caught:
            desk.put_wish("starts", ["double", "turn", "copy1"], "last", wished=["", "a"])
        self.assertEqual(caught.exception.text, "b")
        self.assertEqual(behind(desk.entry("copy1"), DOUBLE).prints, "ab")
        self.assertEqual(exactly("ab", "")(""), True)


if __name__ == "__main__":
    unittest.main()
