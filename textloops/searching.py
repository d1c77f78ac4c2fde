"""Least texts, in text order, for which readers with names have places with a certain answer."""

from textloops.asking import counted, placings, source_states, wished_layer


def least_text_with_places(readers):
    """Returns the least text for which one of the readers has places with the answer True, or None."""
    ways = [ways_left(reader) for reader in readers]
    lengths = [way[0] for way in ways if 0 in way]
    if not lengths:
        return None
    alphabet = readers[0].alphabet
    fronts = [{0: True} for _ in readers]
    text = ""
    for rest in range(min(lengths) - 1, -1, -1):
        # No way is shorter, so the states from which the rest is long enough are those on the shortest ways.
        letter, fronts = least_step(readers, ways, fronts, rest)
        text = text + alphabet[letter]
    return text


def ways_left(reader):
    """Returns a dict with the length of the shortest way from each state to the answer True, if there is one."""
    sources = source_states(reader)
    lengths = {state: 0 for state in wished_layer(reader, [True])}
    waiting = list(lengths)
    at = 0
    while at < len(waiting):
        state = waiting[at]
        at += 1
        for source in sources[state]:
            if source not in lengths:
                lengths[source] = lengths[state] + 1
                waiting.append(source)
    return lengths


def least_step(readers, ways, fronts, rest):
    """Returns the first letter, and the fronts behind it, from which a way of just this length is left."""
    letter = -1
    found = [{}]
    while not any([len(front) > 0 for front in found]):
        letter += 1
        found = []
        for reader, way, front in zip(readers, ways, fronts):
            found.append(front_behind(reader, way, front, letter, rest))
    return (letter, found)


def front_behind(reader, way, front, letter, rest):
    """Returns a dict of True for the states behind the letter from which the shortest way has this length."""
    found = {}
    for state in front:
        for target, _ in counted(reader.moves[state][letter::len(reader.alphabet)]):
            if way.get(target, -1) == rest:
                found[target] = True
    return found


def first_placing(reader, text):
    """Returns the first places with which the reader answers True for the text, or None."""
    for places in placings(reader, text, [True]):
        return places
    return None
