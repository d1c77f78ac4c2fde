"""Least texts, in text order, with which something is found by going from key to key."""


class Seeker:
    """Looks for a text that leads from one of its first keys, the `starts`, to an end.

    A class below has two methods: `behind(key)` returns, for each letter, the list of the keys behind it, and
    `is_end(key)` tells whether a key is an end.
    """

    def __init__(self, starts):
        self.starts = starts

    def is_hopeless(self, key):
        """Tells whether a key that was taken leads to an end by all texts by which this key does."""
        return False

    def take(self, key):
        """Learns that a key is met behind fewer letters than those that follow."""


def least_found(alphabet, seekers):
    """Returns the least text with which one of the seekers comes to an end, or None."""
    rows = {}

    def is_end(key):
        return seekers[key[0]].is_end(key[1])

    def row_of(key):
        if key not in rows:
            number, own = key
            rows[key] = [[(number, target) for target in part] for part in seekers[number].behind(own)]
        return rows[key]

    layers = [[(number, start) for number, seeker in enumerate(seekers) for start in seeker.starts]]
    met = {start: True for start in layers[0]}
    while layers[-1] and not any([is_end(key) for key in layers[-1]]):
        # Only those keys matter behind which an end is not nearer than that behind the keys before them.
        for number, own in layers[-1]:
            seekers[number].take(own)
        layer = fresh_layer(layers[-1], row_of, met)
        layers.append([(number, own) for number, own in layer if not seekers[number].is_hopeless(own)])
    return text_through(alphabet, living(layers, row_of, is_end), row_of)


def fresh_layer(layer, row_of, met):
    """Returns the list of the keys behind those of the layer that have not been met yet; they are met then."""
    found = []
    for key in layer:
        for part in row_of(key):
            for target in part:
                if target not in met:
                    met[target] = True
                    found.append(target)
    return found


def living(layers, row_of, is_end):
    """Returns, for each layer, a dict of True for the keys from which the layers behind lead to an end."""
    found = [{key: True for key in layers[-1] if is_end(key)}]
    for layer in layers[-2::-1]:
        alive = {}
        for key in layer:
            if any([target in found[-1] for part in row_of(key) for target in part]):
                alive[key] = True
        found.append(alive)
    return found[::-1]


def text_through(alphabet, alive, row_of):
    """Returns the least text that leads through the layers, or None if the last one is empty."""
    if not alive[-1]:
        return None
    text = ""
    front = list(alive[0])
    for layer in alive[1:]:
        letter, front = least_step(front, layer, row_of)
        text = text + alphabet[letter]
    return text


def least_step(front, layer, row_of):
    """Returns the first letter that leads from the front into the layer, and the keys to which it leads."""
    letter = -1
    found = {}
    while not found:
        letter += 1
        for key in front:
            for target in row_of(key)[letter]:
                if target in layer:
                    found[target] = True
    return (letter, list(found))
