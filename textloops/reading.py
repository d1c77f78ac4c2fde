"""Readers in programs."""

from textloops.answers import AnswerBook
from textloops.checks import check_alphabet, check_text
from textloops.errors import MissingAnswer, UnknownName
from textloops.limits import check_limit, check_spot
from textloops.making import FreshNames, names_of, replaced
from textloops.outlines import Outline
from textloops.programs import Program
from textloops.readers import Reader
from textloops.stepping import Stepping


def reading(reader, words, *, prints):
    """Returns a program that prints, for each text, the word of the pair `(answer, word)` with the reader's answer."""
    check_alphabet(prints)
    book = AnswerBook()
    word_of = {}
    for answer, word in words:
        word_of.setdefault(book.number(answer), word)
    for answer in reader.answers:
        if book.number(answer) not in word_of:
            raise MissingAnswer(answer)
    for _, word in words:
        check_text(word, prints)
    worded = Reader(reader.alphabet, reader.moves, [word_of[book.number(answer)] for answer in reader.answers])
    names = FreshNames([])
    stepping = Stepping(worded, names)
    printing = stepping.choice([(("print", word),) if word else () for word in worded.answers])
    return Program(reader.alphabet, prints, stepping.within_marks((*going_over(stepping, names.fresh()), *printing)))


def going_over(stepping, place):
    """Returns the block that goes over the whole text; there is nothing to do if the state is always the same."""
    block = stepping.step(place)
    return (("for", place, "up", block),) if block else ()


def guarded(program, spot, name, reader, *, side):
    """Returns the program in which the statement is done only if the reader answers True before or after the place."""
    check_spot(program, spot)
    if name not in program.spots[spot][1]:
        raise UnknownName(name)
    check_limit(program.reads, reader)
    outline = Outline(program.block)
    names = FreshNames(names_of(outline.statements))
    stepping = Stepping(reader, names)
    place = names.fresh()
    is_on_side = ("before", place, name) if side == "before" else ("before", name, place)
    block = guard(stepping, place, is_on_side, outline.statements[spot])
    return Program(program.reads, program.prints, replaced(program, spot, 1, stepping.within_marks(block)))


def guard(stepping, place, is_on_side, statement):
    """Returns the block that goes over the places for which the test holds, and then does the statement or not."""
    test = stepping.test(list(stepping.reader.answers))
    if isinstance(test, bool):
        return (statement,) if test else ()
    going = (("for", place, "up", (("if", is_on_side, stepping.step(place), ()),)),)
    return (*going, ("if", test, (statement,), ()))
