"""Machines side by side, as states that are gone through in all ways at once."""

from textloops.spans import Span


class Weights:
    """The states of machines whose answers are numbers; a text's worth is the sum of the answers of all its ways.

    `rows` has, for each letter, the list of the pairs `(next state, how often)` of each state, and `ends` the answers.
    States from which all answers are 0 are left out.
    """

    def __init__(self, width, machines):
        self.firsts = []
        self.rows = [[] for _ in range(width)]
        self.ends = []
        for machine in machines:
            self.take(machine)

    def take(self, machine):
        """Takes the states of one more machine."""
        kept = worthy_states(machine)
        number_of = {state: len(self.ends) + index for index, state in enumerate(kept)}
        if 0 in number_of:
            self.firsts.append(number_of[0])
        for state in kept:
            self.ends.append(machine.answers[state] if machine.lefts[state] == 0 else 0)
            for letter, rows in enumerate(self.rows):
                times = {}
                for target in machine.moves[state][letter::machine.width]:
                    if target in number_of:
                        times[number_of[target]] = times.get(number_of[target], 0) + 1
                rows.append(list(times.items()))

    def first_row(self):
        """Returns the row of numbers with 1 for each first state."""
        return [1 if state in self.firsts else 0 for state in range(len(self.ends))]

    def row_behind(self, row, letter):
        """Returns how often the ways counted in the row come to each state behind the letter."""
        found = [0 for _ in row]
        for count, targets in zip(row, self.rows[letter]):
            if count != 0:
                for target, times in targets:
                    found[target] += count * times
        return found

    def column_before(self, column, letter):
        """Returns what each state is worth before the letter, if the column tells it for the states behind it."""
        return [sum([column[target] * times for target, times in targets]) for targets in self.rows[letter]]


def worthy_states(machine):
    """Returns, in ascending order, the states from which an answer other than 0 can be reached."""
    return leading_states(machine, lambda answer: answer != 0)


def leading_states(machine, is_wished):
    """Returns, in ascending order, the states from which an answer can be reached for which `is_wished` holds."""
    sources = [[] for _ in machine.moves]
    for state, row in enumerate(machine.moves):
        for target in row:
            if target is not None:
                sources[target].append(state)
    ends = list(zip(machine.answers, machine.lefts))
    waiting = [state for state, (answer, left) in enumerate(ends) if left == 0 and is_wished(answer)]
    kept = {state: True for state in waiting}
    while waiting:
        for source in sources[waiting.pop()]:
            if source not in kept:
                kept[source] = True
                waiting.append(source)
    return sorted(kept)


def product_sum(row, column):
    return sum([one * two for one, two in zip(row, column)])


def least_worthy(weights, alphabet):
    """Returns the least text whose worth is not 0, or None."""
    span = Span()
    candidates = [("", weights.first_row())]
    # Texts come in text order; what can be told by earlier rows is worth nothing sooner than one of these is.
    at = 0
    while at < len(candidates):
        text, row = candidates[at]
        at += 1
        if product_sum(row, weights.ends) != 0:
            return text
        if span.factors(row) is None:
            for letter, sign in enumerate(alphabet):
                candidates.append((text + sign, weights.row_behind(row, letter)))
    return None
