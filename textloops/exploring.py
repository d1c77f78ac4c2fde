"""Going over states."""


def explored(start, row_of):
    """Goes from key to key, beginning with start; `row_of(key)` is the row of the keys (or None) behind a key.

    Returns the keys in the order in which they are first met, and the rows with the numbers of the keys in them.
    """
    numbers = {start: 0}
    keys = [start]
    rows = []
    while len(rows) < len(keys):
        row = []
        for key in row_of(keys[len(rows)]):
            if key is None:
                row.append(None)
            else:
                if key not in numbers:
                    numbers[key] = len(keys)
                    keys.append(key)
                row.append(numbers[key])
        rows.append(tuple(row))
    return (keys, rows)
