"""Going over states."""


def explored(start, row_of):
    """Goes from key to key, beginning with start; `row_of(key)` is the row of the keys (or None) behind a key.

    Returns the keys in the order in which they are first met, and the rows with the numbers of the keys in them.
    """
    numbers = {start: 0}
    keys = [start]
    rows = []
    while len(rows) < len(keys):
        row = []
        for key in row_of(keys[len(rows)]):
            if key is None:
                row.append(None)
            else:
                if key not in numbers:
                    numbers[key] = len(keys)
                    keys.append(key)
                row.append(numbers[key])
        rows.append(tuple(row))
    return (keys, rows)


def side_by_side(one, two):
    """Goes through the pairs of states of two readers, or machines, that read the same; returns as `explored` does."""

    def row_of(pair):
        first, second = pair
        row = []
        for entry, other in zip(one.moves[first], two.moves[second]):
            row.append(None if entry is None else (entry, other))
        return row

    return explored((0, 0), row_of)
