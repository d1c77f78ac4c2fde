"""Effects of statements: where they lead from each standing."""


class EffectBook:
    """Gives each effect on so many standings a number, and keeps which effects follow from one another.

    An effect is kept as a tuple with one more item: the number behind the last standing says that a statement is not
    begun in a standing, and it leads to itself.
    """

    def __init__(self, count):
        self.nowhere = count
        self.effects = []
        self.numbers = {}
        self.kept = {}
        self.picks = {}

    def number(self, targets):
        """Returns the number of the effect that leads from each standing to one of the targets."""
        effect = (*targets, self.nowhere)
        if effect not in self.numbers:
            self.numbers[effect] = len(self.effects)
            self.effects.append(effect)
        return self.numbers[effect]

    def targets(self, number):
        """Returns the standings to which the effect leads."""
        return self.effects[number][:-1]

    def staying(self, standings):
        """Returns the effect that leaves these standings as they are and is not begun in others."""
        return self.number([one if one in standings else self.nowhere for one in range(self.nowhere)])

    def target(self, standing, effect):
        """Returns where the effect leads from the standing; if this is not begun, it leads nowhere."""
        return self.effects[effect][standing]

    def then(self, first, second):
        """Returns the effect of two effects, one behind the other."""
        key = (first, second)
        if key not in self.kept:
            behind = self.effects[second]
            self.kept[key] = self.number([behind[one] for one in self.targets(first)])
        return self.kept[key]

    def either(self, first, second):
        """Returns the effect that is the first one where that one is begun, and otherwise the second one."""
        key = (first, second)
        if key not in self.picks:
            pairs = list(zip(self.targets(first), self.targets(second)))
            self.picks[key] = self.number([other if one == self.nowhere else one for one, other in pairs])
        return self.picks[key]
