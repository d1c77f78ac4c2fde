"""Ways from state to state of a reader, told by the indexes of the entries that are taken."""


def placed_text(reader, entries):
    """Returns the placed text that the entries read, one for each letter."""
    width = len(reader.alphabet)
    places = [0 for _ in reader.names]
    for index, entry in enumerate(entries):
        for name in range(len(places)):
            if (entry // width) >> name & 1:
                places[name] = index
    return ("".join([reader.alphabet[entry % width] for entry in entries]), tuple(places))


def way_back(origins, at):
    """Returns the entries that lead to `at`; `origins[at]` is the pair of what comes before and the entry, or None."""
    entries = []
    while origins[at] is not None:
        at, entry = origins[at]
        entries.append(entry)
    return entries[::-1]


def least_placed_text(reader, state):
    """Returns the least placed text that leads to the state."""
    # In least form the states are numbered in the order in which the least placed texts reach them.
    origins = {0: None}
    for source in range(reader.size):
        for entry, target in enumerate(reader.moves[source]):
            if target is not None and target not in origins:
                origins[target] = (source, entry)
    return placed_text(reader, way_back(origins, state))
