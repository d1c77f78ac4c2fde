"""Questions about what a reader answers."""

from textloops.answers import wished_states
from textloops.checks import letter_indexes
from textloops.exploring import explored
from textloops.paths import least_placed_text
from textloops.plans import ReaderPlan
from textloops.readers import Reader


def first_text(reader, wished):
    """Returns the least placed text whose answer is a wished one, or None."""
    for state, is_wished in enumerate(wished_states(reader, wished)):
        if is_wished:
            return least_placed_text(reader, state)
    return None


def count_texts(reader, wished, length):
    """Returns how many placed texts of this length have a wished answer."""
    rows = [counted(row) for row in reader.moves]
    # For each state: how many ways of the length looked at so far lead from it to a wished answer.
    counts = [1 if is_wished else 0 for is_wished in wished_states(reader, wished)]
    for _ in range(length):
        counts = [sum([counts[target] * times for target, times in row]) for row in rows]
    return counts[0]


def counted(row):
    """Returns pairs of a state and how often it stands in the row."""
    times = {}
    for target in row:
        if target is not None:
            times[target] = times.get(target, 0) + 1
    return list(times.items())


def texts(reader, wished, *, most):
    """Yields the first texts, in text order, for which the answer is a wished one; `most` of them at most."""
    layers = [wished_layer(reader, wished)]
    sources = source_states(reader)
    given = 0
    # An empty layer says that no way of its length, and so none that is longer, leads to a wished answer.
    while given < most and layers[-1]:
        for text in texts_through(reader, layers):
            yield text
            given += 1
            if given == most:
                return
        layers.append(layer_before(layers[-1], sources))


def wished_layer(reader, wished):
    """Returns a dict of True for the states with a wished answer."""
    layer = {}
    for state, is_wished in enumerate(wished_states(reader, wished)):
        if is_wished:
            layer[state] = True
    return layer


def source_states(reader):
    """Returns, for each state, the list of the states with an entry that leads to it."""
    sources = [[] for _ in reader.moves]
    for state, row in enumerate(reader.moves):
        for target, _ in counted(row):
            sources[target].append(state)
    return sources


def layer_before(layer, sources):
    """Returns a dict of True for the states from which one letter leads into the layer."""
    before = {}
    for state in layer:
        for source in sources[state]:
            before[source] = True
    return before


def texts_through(reader, layers):
    """Yields, in order, the texts that lead from state 0 through the layers, from the last one to the first one."""
    length = len(layers) - 1
    waiting = [(0, "")] if 0 in layers[length] else []
    while waiting:
        state, text = waiting.pop()
        if len(text) == length:
            yield text
        else:
            layer = layers[length - len(text) - 1]
            for letter in range(len(reader.alphabet) - 1, -1, -1):
                if reader.moves[state][letter] in layer:
                    waiting.append((reader.moves[state][letter], text + reader.alphabet[letter]))


def placings(reader, text, wished):
    """Yields, in ascending order, the places with which the answer for the text is a wished one."""
    letters = letter_indexes(text, reader.alphabet)
    layer = wished_layer(reader, wished)
    plan = ReaderPlan(len(reader.alphabet), len(reader.names), reader.moves, layer)
    waiting = [()]
    while waiting:
        places = waiting.pop()
        if len(places) < len(reader.names):
            found = plan.next_places(letters, places)
            waiting.extend([(*places, place) for place in found[::-1]])
        elif reader.names or end_state(reader, 0, letters) in layer:
            yield places


def end_state(reader, state, letters):
    """Returns the state to which the letters lead from the given one, if no name is placed."""
    for letter in letters:
        state = reader.moves[state][letter]
    return state


def somewhere(reader, wished):
    """Returns the reader without names that tells whether a text has places with a wished answer."""
    plain = with_truths(reader, wished)
    steps = useful_steps(plain)
    sure = sure_state(plain)

    def row_of(states):
        row = []
        for letter in range(len(plain.alphabet)):
            behind = sorted({target for state in states for target in steps[state][letter]})
            # With a state from which all texts have wished answers the other ones do not matter.
            row.append((sure,) if sure in behind else tuple(behind))
        return row

    groups, rows = explored((0,), row_of)
    answers = [any([plain.answers[state] is True for state in states]) for states in groups]
    return Reader(reader.alphabet, rows, answers)


def with_truths(reader, wished):
    """Returns the reader that answers True for the wished answers of the reader and otherwise False."""
    flags = wished_states(reader, wished)
    answers = [flag if left == 0 else None for flag, left in zip(flags, reader.lefts)]
    return Reader(reader.alphabet, reader.moves, answers, names=reader.names, lefts=reader.lefts)


def useful_steps(plain):
    """Returns, for each state and letter, the states behind it from which the answer True can be reached."""
    useful = useful_states(plain)
    width = len(plain.alphabet)
    steps = []
    for row in plain.moves:
        steps.append([
            sorted({target for target in row[letter::width] if target in useful}) for letter in range(width)
        ])
    return steps


def useful_states(plain):
    """Returns a dict of True for the states from which the answer True can be reached."""
    sources = source_states(plain)
    useful = wished_layer(plain, [True])
    waiting = list(useful)
    while waiting:
        for source in sources[waiting.pop()]:
            if source not in useful:
                useful[source] = True
                waiting.append(source)
    return useful


def sure_state(plain):
    """Returns the state without names left behind which all answers are True, or None; in least form there is one."""
    for state, row in enumerate(plain.moves):
        if plain.answers[state] is True and all([target is None or target == state for target in row]):
            return state
    return None


def far_answer(reader, pieces):
    """Returns the answer for the text in which each word of the pieces `(word, times)` stands so many times."""
    state = 0
    for word, times in pieces:
        state = state_behind(reader, state, letter_indexes(word, reader.alphabet), times)
    return reader.answers[state]


def state_behind(reader, state, letters, times):
    """Returns the state that the letters, so many times, lead to."""
    met = {state: 0}
    states = [state]
    while len(states) <= times:
        state = end_state(reader, state, letters)
        if state in met:
            begin = met[state]
            return states[begin + (times - begin) % (len(states) - begin)]
        met[state] = len(states)
        states.append(state)
    return states[times]
