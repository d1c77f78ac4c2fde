"""Tables: the effects of statements for all texts and places."""

from textloops.entries import Entries
from textloops.limits import check_spot, check_watcher
from textloops.machines import machine_reader, mapped
from textloops.outlines import Outline
from textloops.standings import Standings
from textloops.tabling import Tabling


def standing_count(program, watcher, spot):
    """Returns the number of standings at the spot."""
    check_watcher(program, watcher)
    check_spot(program, spot)
    return watcher.size << len(program.spots[spot][2])


def table(program, watcher, spot):
    """Returns the reader that tells the effect of the statement at the spot."""
    check_watcher(program, watcher)
    check_spot(program, spot)
    outline = Outline(program.block)
    standings = Standings(program, outline, watcher)
    entries = Entries(outline, standings)
    entries.go_from((spot,), list(range(standings.total(spot))))
    tabling = Tabling(program, outline, standings, entries.met)
    return spot_reader(tabling, spot)


def tables(program, watcher):
    """Returns the readers that tell the effects of all statements, in the order of the spots."""
    check_watcher(program, watcher)
    outline = Outline(program.block)
    standings = Standings(program, outline, watcher)
    met = []
    for spot in range(program.size):
        met.append({standing: True for standing in range(standings.total(spot))})
    tabling = Tabling(program, outline, standings, met)
    # The last spots come first, so that what stands within a statement is there when the statement is looked at.
    readers = [spot_reader(tabling, spot) for spot in range(program.size - 1, -1, -1)]
    return tuple(readers[::-1])


def spot_reader(tabling, spot):
    """Returns the reader of the effects of the statement at the spot."""
    book = tabling.book(spot)
    machine = mapped(tabling.machine(spot), book.targets)
    return machine_reader(machine, tabling.program.reads, tabling.names(spot))


def whole_table(program, watcher):
    """Returns the reader that tells the effect of the whole block of the program."""
    check_watcher(program, watcher)
    machine, book = whole_machine(program, watcher, list(range(watcher.size)))
    return machine_reader(mapped(machine, book.targets), program.reads, ())


def whole_machine(program, watcher, entering):
    """Returns the machine of the effects of the whole block, and their book.

    `entering` has the states of the watcher in which the block may begin.
    """
    outline = Outline(program.block)
    standings = Standings(program, outline, watcher)
    entries = Entries(outline, standings)
    entries.go_from(outline.block, entering)
    tabling = Tabling(program, outline, standings, entries.met)
    book = tabling.book_for(watcher.size)
    begun = {standing: True for standing in entering}
    return (tabling.block_machine(outline.block, (), book, begun), book)
