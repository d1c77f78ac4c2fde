"""Whether watchers, limits and spots fit a program."""

from textloops.errors import UnknownSpot, WrongLimit, WrongWatcher


def check_watcher(program, watcher):
    if watcher.names or watcher.alphabet != program.prints:
        raise WrongWatcher()


def check_spot(program, spot):
    if not 0 <= spot < program.size:
        raise UnknownSpot(spot)


def check_limit(alphabet, within):
    """Raises WrongLimit if `within` is neither None nor a reader without names that answers True and False alone."""
    if within is None:
        return
    is_sure = all([answer is True or answer is False for answer in within.answers])
    if within.names or within.alphabet != alphabet or not is_sure:
        raise WrongLimit()
