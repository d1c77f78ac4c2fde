"""Sequences that were passed, as tuples at every level."""


def frozen(value):
    """Returns the value; a list or tuple becomes a tuple at every level, so that later changes have no effect."""
    if isinstance(value, tuple) and not any([isinstance(part, (list, tuple)) for part in value]):
        return value
    # Blocks and tests of made programs may lie deep within one another: so this goes on without recursion.
    rows = [[]]
    tasks = [(value, False)]
    while tasks:
        item, is_row_end = tasks.pop()
        if is_row_end:
            row = rows.pop()
            rows[-1].append(tuple(row))
        elif isinstance(item, (list, tuple)):
            rows.append([])
            tasks.append((None, True))
            tasks.extend([(part, False) for part in item[::-1]])
        else:
            rows[-1].append(item)
    return rows[0][0]


def flat(value):
    """Returns a list that is the same just for equal values, which are tuples, at all levels, of strings.

    Tuples that lie very deep within one another cannot be compared straight.
    """
    found = []
    waiting = [value]
    while waiting:
        item = waiting.pop()
        if isinstance(item, tuple):
            found.append(len(item))
            waiting.extend(item[::-1])
        else:
            found.append(item)
    return found
