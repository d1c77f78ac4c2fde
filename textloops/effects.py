"""Effects of statements: where they lead from each standing."""


class EffectBook:
    """Gives each effect on so many standings a number, and keeps which effects follow from one another.

    An effect is kept as a pair: the number of the row of standings in which the statement is begun, in ascending order,
    and the standings to which it leads from these. `nowhere` is what it leads to from others.
    """

    def __init__(self, count):
        self.nowhere = count
        self.rows = []
        self.row_numbers = {}
        self.effects = []
        self.numbers = {}
        self.lookups = {}
        self.kept = {}
        self.picks = {}

    def number(self, pairs):
        """Returns the number of the effect with these pairs of a standing and what follows, in ascending order."""
        row = tuple([one for one, _ in pairs])
        if row not in self.row_numbers:
            self.row_numbers[row] = len(self.rows)
            self.rows.append(row)
        return self.numbered((self.row_numbers[row], tuple([target for _, target in pairs])))

    def numbered(self, effect):
        if effect not in self.numbers:
            self.numbers[effect] = len(self.effects)
            self.effects.append(effect)
        return self.numbers[effect]

    def pairs(self, number):
        """Returns the pairs of a standing, in which the effect is begun, and what follows."""
        row, targets = self.effects[number]
        return list(zip(self.rows[row], targets))

    def targets(self, number):
        """Returns the row of what follows for all standings."""
        return tuple([self.target(standing, number) for standing in range(self.nowhere)])

    def target(self, standing, number):
        """Returns where the effect leads from the standing."""
        return self.lookup(number).get(standing, self.nowhere)

    def lookup(self, number):
        """Returns a dict with what follows for the standings in which the effect is begun."""
        if number not in self.lookups:
            self.lookups[number] = {standing: target for standing, target in self.pairs(number)}
        return self.lookups[number]

    def staying(self, standings):
        """Returns the effect that leaves these standings as they are and is not begun in others."""
        return self.number([(standing, standing) for standing in sorted(standings)])

    def then(self, first, second):
        """Returns the effect of two effects, one behind the other."""
        key = (first, second)
        if key not in self.kept:
            self.kept[key] = self.worked_out(first, second)
        return self.kept[key]

    def worked_out(self, first, second):
        """Works out the effect of two effects, one behind the other."""
        row, targets = self.effects[first]
        _, behind = self.effects[second]
        # An effect that is begun in all standings has them as its indexes.
        if len(behind) == self.nowhere:
            return self.numbered((row, tuple([behind[target] for target in targets])))
        lookup = self.lookup(second)
        pairs = [(one, lookup[target]) for one, target in zip(self.rows[row], targets) if target in lookup]
        return self.number(pairs)

    def either(self, first, second):
        """Returns the effect that is the first one where that one is begun, and otherwise the second one."""
        key = (first, second)
        if key not in self.picks:
            found = {standing: target for standing, target in self.pairs(second)}
            for standing, target in self.pairs(first):
                found[standing] = target
            self.picks[key] = self.number([(standing, found[standing]) for standing in sorted(found)])
        return self.picks[key]
