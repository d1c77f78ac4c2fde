"""Finding the places of names in a text, one name after the other."""

from textloops.readers import sets_at


def next_places(reader, letters, layer, begun):
    """Returns, in ascending order, the places of the next name with which the places begun can be completed.

    The layer has the states at which a completed placing is to end.
    """
    fronts, steps = steps_forward(reader, letters, begun)
    alive = {state: True for state in fronts[-1] if state in layer}
    found = []
    for place in range(len(letters) - 1, -1, -1):
        step = steps[place]
        placing = [state for state in fronts[place] if has_any(step[state][1], alive)]
        passing = [state for state in fronts[place] if has_any(step[state][0], alive)]
        if placing:
            found.append(place)
        alive = {state: True for state in placing + passing}
    return found[::-1]


def has_any(states, alive):
    return any([state in alive for state in states])


def steps_forward(reader, letters, begun):
    """Returns the lists of states before, between and behind the letters, and the steps of each of these states."""
    sets = sets_at(begun)
    known = {}
    fronts = [[0]]
    steps = []
    for place, letter in enumerate(letters):
        chosen = sets.get(place, 0)
        step = known.setdefault((letter, chosen), {})
        for state in fronts[-1]:
            if state not in step:
                step[state] = targets(reader, state, letter, chosen, len(begun))
        steps.append(step)
        fronts.append(sorted({target for state in fronts[-1] for part in step[state] for target in part}))
    return (fronts, steps)


def targets(reader, state, letter, chosen, count):
    """Returns two lists of the states behind a letter: without the next name placed at it, and with it.

    Of the names placed before, `count` in all, just the chosen ones stand at the letter; the later ones are free.
    """
    found = [[], []]
    for free in range(1 << (len(reader.names) - count)):
        target = reader.moves[state][(chosen + (free << count)) * len(reader.alphabet) + letter]
        if target is not None:
            found[free & 1].append(target)
    return [sorted(set(part)) for part in found]
