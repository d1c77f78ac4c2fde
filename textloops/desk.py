"""A desk with programs, watchers and wishes."""

from textloops.asking import first_text, with_truths
from textloops.checks import check_name
from textloops.errors import Broken, Missing, NameInUse, UnfitRow, UnknownName
from textloops.foretelling import foretell
from textloops.freezing import frozen


class Desk:
    """Keeps programs, watchers and wishes by name; all wishes hold, but for the time within a late `perform`.

    `entries` leads each name to the pair of its kind and what is kept. It is never modified, but replaced.
    """

    def __init__(self):
        self.entries = {}

    def put_program(self, name, program):
        """Puts a program, or replaces the one with this name."""
        self.change([("program", name, program)])

    def put_watcher(self, name, watcher):
        """Puts a watcher, or replaces the one with this name."""
        self.change([("watcher", name, watcher)])

    def put_wish(self, name, row, watcher, *, wished):
        """Puts a wish, or replaces the one with this name."""
        self.change([("wish", name, row, watcher, wished)])

    def strike(self, name):
        """Removes an entry."""
        self.change([("strike", name)])

    def change(self, deeds):
        """Does the deeds, and then looks at the wishes that they can have broken."""
        entries = self.entries
        for deed in deeds:
            entries = entries_behind(entries, deed)
        look_at_wishes(entries, {deed[1]: True for deed in deeds})
        self.entries = entries

    def entry_names(self):
        """Returns the names of all entries in alphabetical order."""
        return tuple(sorted(self.entries))

    def entry(self, name):
        """Returns the program, the watcher, or the triple of a wish."""
        if name not in self.entries:
            raise UnknownName(name)
        return self.entries[name][1]

    def foretold(self, row, watcher):
        """Returns the reader of what the watcher answers to what the last program of the row prints."""
        programs, reader = fitting(self.entries, "", row, watcher)
        return foretold_by(programs, reader)


class Trial:
    """For `with`: if an error leaves the block, the desk becomes again what it was when the block began."""

    def __init__(self, desk):
        self.desk = desk
        self.kept = None

    def __enter__(self):
        self.kept = self.desk.entries
        return self

    def __exit__(self, kind, value, trace):
        desk = self.desk
        if kind is not None:
            desk.entries = self.kept


def perform(desk, deeds, *, late=False):
    """Does the deeds within a Trial; if it is late, the wishes are looked at only behind the last one."""
    with Trial(desk):
        if late:
            desk.change(deeds)
        else:
            for deed in deeds:
                desk.change([deed])


def entries_behind(entries, deed):
    """Returns the entries behind a deed; raises BadName, NameInUse or UnknownName."""
    word, name = deed[:2]
    if word == "strike":
        if name not in entries:
            raise UnknownName(name)
        return {other: entry for other, entry in entries.items() if other != name}
    check_name(name)
    if name in entries and entries[name][0] != word:
        raise NameInUse(name)
    kept = (tuple(deed[2]), deed[3], frozen(deed[4])) if word == "wish" else deed[2]
    return {**entries, name: (word, kept)}


def look_at_wishes(entries, changed):
    """Looks at the wishes that have to do with one of the changed names; the others held before, and so hold now."""
    for wish in sorted(entries):
        word, kept = entries[wish]
        if word == "wish":
            row, watcher, wished = kept
            if any([name in changed for name in (wish, *row, watcher)]):
                look_at_wish(entries, wish, kept)


def look_at_wish(entries, wish, kept):
    """Raises an error if the wish cannot be looked at, or does not hold."""
    row, watcher, wished = kept
    programs, reader = fitting(entries, wish, row, watcher)
    broken = first_text(foretold_by(programs, with_truths(reader, wished)), [False])
    if broken is not None:
        raise Broken(wish, broken[0])


def fitting(entries, wish, row, watcher):
    """Returns the list of the row's programs and the watcher; raises Missing or UnfitRow."""
    programs = []
    for name in row:
        programs.append(entry_of_kind(entries, "program", wish, name))
    reader = entry_of_kind(entries, "watcher", wish, watcher)
    alphabets = [program.reads for program in programs[1:]] + [reader.alphabet]
    for program, alphabet in zip(programs, alphabets):
        if program.prints != alphabet:
            raise UnfitRow(wish)
    return (programs, reader)


def entry_of_kind(entries, word, wish, name):
    if name not in entries or entries[name][0] != word:
        raise Missing(wish, name)
    return entries[name][1]


def foretold_by(programs, reader):
    """Returns the reader of what a watcher answers to what programs, one behind the other, print."""
    for program in programs[::-1]:
        reader = foretell(program, reader)
    return reader
