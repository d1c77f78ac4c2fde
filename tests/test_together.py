"""Several parts at once: what one function makes is asked by others, and two ways to one thing give the same."""

import random
import unittest

from tests.reference import random_description, texts_up_to
from tests.runs import Maker, plain_births, plain_print, statements_of
from tests.shapes import AFTER_A, FOUR_MARKS, PAIRS, TWO_LOOPS, Shaper
from textloops.alike import same_letters, same_lot, same_row
from textloops.asking import first_text, somewhere
from textloops.changing import beside, mirrored, recoded, renamed
from textloops.comparing import paired, parting, relabelled
from textloops.desk import Desk, perform
from textloops.errors import Unbounded
from textloops.foretelling import foretell, printing, verdict
from textloops.hanging import hangs
from textloops.joining import behind, copying, row_of
from textloops.marks import markless
from textloops.powers import greatest, power
from textloops.programs import Program
from textloops.reaches import claim, come_to, printed_at, reach
from textloops.readers import Reader
from textloops.reading import guarded, reading
from textloops.running import births, run, visits
from textloops.tables import tables, whole_table
from textloops.tallies import count_parting, tally, total_count
from textloops.telling import tells
from textloops.trimming import exchanged, needless, opened, struck, trimmed
from textloops.turning import turned
from textloops.watchers import containing, counting, ending, exactly, never_behind
from textloops.writing import format_program, parse_program


def small(seed, rounds, reads="ab", prints="ab"):
    for number in range(rounds):
        rng = random.Random(seed + number)
        yield rng, Maker(rng, reads, prints, 2, 2, 2).program(rng.randint(3, 9))


def shaped(seed, rounds):
    for number in range(rounds):
        rng = random.Random(seed + number)
        yield rng, Shaper(rng).two_loops() if number % 2 else Shaper(rng).four_marks()


def random_watcher(rng, alphabet):
    return Reader(**random_description(rng, alphabet, [], [0, 1, 2], 3))


def other_names(program):
    names = [statement[1] for statement in statements_of(program.block) if statement[0] in ("for", "mark")]
    return renamed(program, [(name, f"q{at}") for at, name in enumerate(names)])


class RowsOfProgramsTest(unittest.TestCase):
    def test_joined_and_foretold_one_by_one(self):
        for rng, first in small(0, 40):
            _, second = next(small(rng.randint(1000, 2000), 1))
            watcher = random_watcher(rng, "ab")
            joined = behind(first, second)
            self.assertEqual(foretell(joined, watcher), foretell(first, foretell(second, watcher)))
            three = row_of([first, copying("ab"), second])
            self.assertIsNone(parting(foretell(three, watcher), foretell(joined, watcher)))
            desk = Desk()
            for name, program in (("p", first), ("q", second), ("r", joined)):
                desk.put_program(name, program)
            desk.put_watcher("w", watcher)
            self.assertEqual(desk.foretold(["p", "q"], "w"), desk.foretold(["r"], "w"))

    def test_programs_made_of_made_programs(self):
        for rng, program in small(3000, 25):
            code = [("a", "ba"), ("b", "")]
            coded = recoded(program, code, prints="ab")
            self.assertIsNone(same_letters(coded, behind(program, recoded(copying("ab"), code, prints="ab"))))
            both = beside(coded, other_names(turned(coded)))
            watcher = random_watcher(rng, "ab")
            foretold = foretell(both, watcher)
            answers = list(dict.fromkeys(foretold.answers))
            told = reading(foretold, [(answer, "a" * (answer + 1)) for answer in answers], prints="a")
            for text in texts_up_to("ab", 3):
                printed = run(coded, text)
                self.assertEqual(run(both, text), printed + printed[::-1])
                self.assertEqual(run(told, text), "a" * (watcher(run(both, text)) + 1))
            self.assertEqual(foretell(told, counting("a", "a", 4)), relabelled(foretold, [(0, 1), (1, 2), (2, 3)]))


class SameThingTest(unittest.TestCase):
    def test_turned_and_mirrored_programs(self):
        for rng, program in shaped(0, 12):
            for made in (turned(program), turned(turned(program))):
                self.assertIsNone(same_lot(program, made))
                self.assertIsNone(same_letters(program, made))
                self.assertEqual(tally(program), tally(made))
                self.assertEqual(power(program)[0], power(made)[0])
            self.assertIsNone(same_row(program, turned(turned(program))))
            self.assertIsNone(same_row(turned(mirrored(program)), mirrored(turned(program))))
            self.assertIsNone(same_row(mirrored(mirrored(program)), program))
            self.assertEqual([total_count(tally(program), size) for size in range(6)],
                             [total_count(tally(mirrored(program)), size) for size in range(6)])
            watcher = random_watcher(rng, "ab")
            forward, backward = foretell(program, watcher), foretell(mirrored(program), watcher)
            self.assertTrue(all(forward(text) == backward(text[::-1]) for text in texts_up_to("ab", 5)))

    def test_written_programs(self):
        for _, program in shaped(20, 10):
            for made in (turned(program), mirrored(program), trimmed(program), behind(program, copying("ab"))):
                self.assertEqual(parse_program(format_program(made)), made)

    def test_tables_foretelling_and_printing(self):
        for rng, program in shaped(40, 12):
            watcher = random_watcher(rng, "ab")
            whole = whole_table(program, watcher)
            effects = list(dict.fromkeys(whole.answers))
            answers = relabelled(whole, [(effect, watcher.answers[effect[0]]) for effect in effects])
            self.assertEqual(answers, foretell(program, watcher))
            around = Program("ab", "ab", [("mark", "around", program.block)])
            first = tables(around, watcher)[0]
            self.assertEqual(first, whole)
            word = run(program, "ab")
            found = first_text(printing(program, word), [True])[0]
            self.assertEqual(run(program, found), word)
            told = verdict(program, watcher, wished=[0])
            if told.breaking is not None:
                self.assertNotEqual(watcher(run(program, told.breaking)), 0)

    def test_reaches_printed_letters_and_counts(self):
        for _, program in shaped(60, 10):
            for spot, (kind, loops, marks) in enumerate(program.spots):
                reader = reach(program, spot)
                word, begun, _ = come_to(program, spot)
                self.assertEqual(begun is None, first_text(reader, [False]) is not None and word == "never")
                self.assertEqual(claim(program, spot, ("not", ("same", loops[0], loops[0]))) if loops else begun, begun)
                if kind in ("print", "copy") and begun is None:
                    self.assertIsNone(needless(program, spot))
                if begun is not None:
                    self.assertIn((spot, begun[1]), [visit[:2] for visit in visits(program, begun[0])])
            for names in {tuple(sorted(loops)) for _, loops, _ in program.spots}:
                where = somewhere(relabelled(printed_at(program, names), [("", False)]), [False])
                for text in texts_up_to("ab", 3):
                    printed = [birth for _, birth in births(program, text) if [name for name, _ in birth] == list(names)]
                    every = len(set(printed)) == len(text) ** len(names)
                    self.assertEqual(where(text), not every)

    def test_births_that_are_compared_and_counted(self):
        for rng, program in small(5000, 60, prints="c"):
            _, other = next(small(rng.randint(6000, 7000), 1, prints="c"))
            parted = same_letters(program, other)
            self.assertEqual(count_parting(tally(program), tally(other)), None if parted is None else parted[0])
            lot, row = same_lot(program, other), same_row(program, other)
            if parted is not None:
                self.assertLessEqual((len(lot[0]), lot[0]), (len(parted[0]), parted[0]))
            if lot is not None:
                self.assertLessEqual((len(row[0]), row[0]), (len(lot[0]), lot[0]))
            # Where one letter is printed, the rows can differ only by its birth.
            limit = printing(program, "c")
            if parted is None:
                self.assertEqual(same_row(program, other, within=limit) is None, same_lot(program, other, within=limit) is None)


class LeavingOutTest(unittest.TestCase):
    def test_needless_statements_and_rows(self):
        for rng, program in shaped(80, 10):
            limit = rng.choice([None, containing("ab", "ab"), never_behind("ab", "a", "b")])
            for spot, (kind, _, _) in enumerate(program.spots):
                found = same_row(program, struck(program, spot), within=limit)
                self.assertEqual(needless(program, spot, within=limit), None if found is None else found[0])
                if kind == "if":
                    parts = [opened(program, spot, branch) for branch in (0, 1)]
                    claims = [claim(program, spot, test, within=limit) for test in (
                        statements_of(program.block)[spot][1], ("not", statements_of(program.block)[spot][1]))]
                    for part, told in zip(parts, claims):
                        # If the test always holds, or never does, the one block does the same.
                        if told is None:
                            self.assertIsNone(same_row(program, part, within=limit))

    def test_trimmed_programs_answer_the_same(self):
        for rng, program in shaped(100, 10):
            made = trimmed(program)
            watcher = random_watcher(rng, "ab")
            self.assertEqual(foretell(made, watcher), foretell(program, watcher))
            self.assertEqual(tally(made), tally(program))
            self.assertEqual(tells(made), tells(program))
            self.assertEqual(power(made)[0], power(program)[0])
            self.assertLessEqual(trimmed(turned(made)).size, turned(made).size)
            again = markless(made)
            self.assertEqual(again[0] is None, markless(program)[0] is None)
            self.assertEqual(again[1], markless(program)[1])

    def test_marks_that_are_not_needed(self):
        for _, program in shaped(120, 20):
            made, told = markless(program)
            if made is None:
                names, first, second = told
                self.assertEqual(parse_program(format_program(program)), program)
                self.assertNotEqual(sorted(printed_at(program, names)(*first)), sorted(printed_at(program, names)(*second)))
                continue
            self.assertIsNone(same_lot(program, made))
            self.assertEqual(tally(program), tally(made))
            self.assertEqual(tells(program), tells(made))
            self.assertTrue(all(hangs(made, spot) is None for spot, entry in enumerate(made.spots) if entry[0] == "print"))
            self.assertEqual(markless(made)[1], None)

    def test_guarded_programs(self):
        for rng, program in shaped(140, 16):
            spots = [spot for spot, entry in enumerate(program.spots) if entry[1]]
            spot = rng.choice(spots)
            name = rng.choice(program.spots[spot][1])
            reader = Reader(**random_description(rng, "ab", [], [True, False], 3))
            opposite = relabelled(reader, [(True, False), (False, True)])
            for side in ("before", "after"):
                made = guarded(program, spot, name, reader, side=side)
                if reader.size == 1:
                    wanted = program if reader("") else struck(program, spot)
                    self.assertIsNone(same_row(made, wanted))
            one, two = [guarded(copying("ab"), 1, "x", which, side="after") for which in (reader, opposite)]
            both = beside(one, other_names(two))
            self.assertIsNone(same_letters(both, copying("ab")))
            for text in texts_up_to("ab", 4):
                self.assertEqual(sorted(births(one, text) + births(two, text)), sorted(births(copying("ab"), text)))


class GrowthTest(unittest.TestCase):
    def test_powers_of_made_programs(self):
        for rng, program in shaped(160, 16):
            _, other = next(shaped(rng.randint(200, 300), 1))
            degree = power(program)[0]
            self.assertEqual(power(beside(program, other_names(other)))[0], max(degree, power(other)[0]))
            double = recoded(program, [("a", "ab"), ("b", "ba")], prints="ab")
            self.assertEqual(power(double)[0], degree)
            twice = behind(program, Program("ab", "ab", [("for", "q", "up", [("print", "ab")])]))
            self.assertEqual(power(twice)[0], degree)
            squared = behind(program, Program("ab", "c", [("for", "q", "up", [("for", "r", "up", [("print", "c")])])]))
            self.assertEqual(power(squared)[0], degree if degree < 1 else 2 * degree)

    def test_greatest_counts_are_those_of_tallies(self):
        for rng, program in shaped(180, 16):
            limit = Reader("ab", [(1, 1), (2, 2), (3, 3), (4, 4), (4, 4)], [True, True, rng.random() < 0.5, True, False])
            count, text = greatest(program, within=limit)
            made = tally(program, within=limit)
            found = [(made(other), other) for other in texts_up_to("ab", 4) if limit(other)]
            self.assertEqual(count, max(found)[0])
            self.assertEqual(text, next(other for own, other in found if own == count))
            with self.assertRaises(Unbounded):
                greatest(beside(program, other_names(copying("ab"))))


def lists(value):
    """The value with lists instead of tuples, at every level."""
    return [lists(part) for part in value] if isinstance(value, (list, tuple)) else value


class SequencesTest(unittest.TestCase):
    def assertTuples(self, value):
        """No list stands in the value, at no level."""
        self.assertNotIsInstance(value, list)
        if isinstance(value, tuple):
            for part in value:
                self.assertTuples(part)

    def test_lists_may_be_passed_and_are_not_modified(self):
        desk = Desk()
        desk.put_program("p", copying("ab"))
        desk.put_watcher("w", ending("ab"))
        words = [("", "c"), ("a", ""), ("b", "cc"), (("q", (1, 2)), "c")]
        for function, rest, more in (
            (renamed, (PAIRS, [("x", "z")]), {}), (recoded, (copying("ab"), [("a", ""), ("b", "cc")]), {"prints": "c"}),
            (reading, (ending("ab"), words), {"prints": "c"}), (row_of, ([copying("ab"), PAIRS],), {}),
            (desk.foretold, (["p", "p"], "w"), {}), (claim, (AFTER_A, 3, ("not", ("mark", "m"))), {}),
            (Program, ("ab", "c", PAIRS.block), {}), (printed_at, (PAIRS, ["y", "x"]), {}),
            (relabelled, (ending("ab"), [("", ("a", ("b", 1)))]), {}),
        ):
            passed = lists(rest)
            answer = function(*passed, **more)
            self.assertEqual(passed, lists(rest))
            self.assertEqual(answer, function(*rest, **more))
        deeds = [["wish", "v", ["p"], "w", ["", "a", "b", ["c", [1]]]], ["strike", "v"]]
        perform(desk, deeds)
        self.assertEqual(deeds, [["wish", "v", ["p"], "w", ["", "a", "b", ["c", [1]]]], ["strike", "v"]])
        wished = ["", "a", "b"]
        desk.put_wish("v", ["p"], "w", wished=wished)
        self.assertEqual(wished, ["", "a", "b"])

    def test_tuples_are_returned(self):
        desk = Desk()
        desk.put_program("p", copying("ab"))
        desk.put_watcher("w", ending("ab"))
        desk.put_wish("v", ["p"], "w", wished=["", "a", "b", ["c", [1]]])
        made = guarded(PAIRS, 2, "x", containing("ab", "a"), side="after")
        for value in (
            power(PAIRS), greatest(copying("ab"), within=exactly("ab", "ab")),
            same_lot(PAIRS, AFTER_A), same_row(PAIRS, AFTER_A), same_letters(PAIRS, AFTER_A), tells(PAIRS),
            markless(AFTER_A)[1], desk.entry_names(), desk.entry("v"), made.block, made.spots, trimmed(made).block,
            reading(ending("ab"), [["", "c"], ["a", "c"], ["b", "cc"]], prints="c").block, mirrored(AFTER_A).block,
            renamed(AFTER_A, [["m", "n"]]).block, beside(PAIRS, renamed(AFTER_A, [["x", "n"]])).block,
            recoded(copying("ab"), [["a", "b"], ["b", ""]], prints="b").block, struck(AFTER_A, 3).block,
            exchanged(AFTER_A, 2).block, opened(AFTER_A, 2, 0).block, markless(copying("ab"))[0].block,
        ):
            self.assertTuples(value)
        with self.assertRaises(Unbounded) as caught:
            greatest(PAIRS)
        self.assertTuples(caught.exception.rounds)


class ReadyProgramsTest(unittest.TestCase):
    def test_exchanged_statements(self):
        for program in (TWO_LOOPS, FOUR_MARKS):
            for spot in range(program.size):
                try:
                    made = exchanged(program, spot)
                except ValueError:
                    continue
                self.assertEqual(exchanged(made, spot), program)
                self.assertEqual(plain_births(made, "ab") == plain_births(program, "ab"),
                                 births(made, "ab") == births(program, "ab"))

    def test_one_thing_asked_in_many_ways(self):
        # The second program prints nothing but for texts that have two letters behind the first a.
        self.assertEqual(verdict(AFTER_A, ending("c"), wished=[""]).breaking, "aa")
        self.assertEqual(needless(AFTER_A, 3), "aa")
        self.assertEqual(come_to(AFTER_A, 3)[1][0], "aa")
        self.assertEqual(count_parting(tally(AFTER_A), tally(Program("ab", "c", []))), "aa")
        self.assertEqual(same_row(AFTER_A, Program("ab", "c", [])), ("aa", 0))
        self.assertEqual(first_text(paired(printing(AFTER_A, ""), printing(PAIRS, "")), [(False, True)])[0], "aa")
        self.assertEqual(markless(AFTER_A)[1][2], ("aa", (1,)))
        self.assertEqual(plain_print(AFTER_A, "aa"), "c")
        self.assertEqual(power(AFTER_A, within=printing(AFTER_A, "cc"))[0], 0)


if __name__ == "__main__":
    unittest.main()
