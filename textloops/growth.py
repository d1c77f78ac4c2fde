"""How fast the number of places grows with which a machine answers True."""

from textloops.components import components
from textloops.paths import way_back
from textloops.repeats import Repeats
from textloops.weights import worthy_states


class Growth:
    """The growth of a machine with the answers True and False, told by its states that lead to the answer True.

    A step from a state to another one by a word is repeatable if the word also leads each of the two to itself without
    placing a name. The degree from a state on is the greatest number of repeatable steps on one way from it to the
    answer True. States that lead to one another are a component; no component leads to one with a greater number.
    """

    def __init__(self, machine):
        self.width = machine.width
        states = worthy_states(machine)
        number_of = {state: number for number, state in enumerate(states)}
        self.rows = [[number_of.get(target, None) for target in machine.moves[state]] for state in states]
        self.lefts = [machine.lefts[state] for state in states]
        self.ends = {number_of[state]: True for state in states if machine.answers[state] is True}
        targets = [sorted({target for target in row if target is not None}) for row in self.rows]
        self.component_of = components(targets)
        self.members = [[] for _ in range(max(self.component_of, default=-1) + 1)]
        for state, component in enumerate(self.component_of):
            self.members[component].append(state)
        # For each component: the components to which it leads, the degree from it on, and what begins a way that shows
        # it: a repeatable step, the number of the next component, or None.
        self.reached = []
        self.degrees = []
        self.begins = []
        for members in self.members:
            self.take(members, sorted({self.component_of[target] for state in members for target in targets[state]}))

    def degree(self):
        """Returns the degree, or -1 if the answer is never True."""
        return self.degrees[self.component_of[0]] if self.rows else -1

    def take(self, members, targets):
        """Finds out about the next component, with these states, which leads to these components at once."""
        own = len(self.degrees)
        reached = {own: True}
        degree = 0
        begin = None
        for target in targets:
            if target != own:
                reached.update(self.reached[target])
                if self.degrees[target] > degree:
                    degree = self.degrees[target]
                    begin = target
        best = [target for target in reached if target != own and self.degrees[target] == degree]
        step = self.repeatable(members, best)
        if step is not None:
            degree += 1
            begin = step
        self.reached.append(reached)
        self.degrees.append(degree)
        self.begins.append(begin)

    def repeatable(self, members, targets):
        """Returns a repeatable step from one of the states to a state of one of these components, or None."""
        if not self.has_ring(members):
            return None
        repeats = Repeats(self.rows, self.lefts, self.width, members)
        for target in targets:
            if self.has_ring(self.members[target]):
                step = repeats.step(self.members[target])
                if step is not None:
                    return step
        return None

    def has_ring(self, members):
        """Tells whether the states of a component lead to one another without placing a name."""
        return len(members) > 1 or members[0] in self.rows[members[0]]

    def rounds(self):
        """Returns words; if those with an odd index stand n times each, the number of places is at least n ** degree.

        There has to be a text for which the answer is True.
        """
        found = []
        state = 0
        begin = self.begins[self.component_of[0]]
        while begin is not None:
            if isinstance(begin, int):
                begin = self.begins[begin]
            else:
                first, word, last = begin
                found.extend([self.word_to(state, {first: True}), word])
                state = last
                begin = self.begins[self.component_of[last]]
        return [*found, self.word_to(state, self.ends)]

    def word_to(self, state, goals):
        """Returns the letters of a shortest word that leads from the state to one of the goals."""
        origins = {state: None}
        waiting = [state]
        at = 0
        while waiting[at] not in goals:
            for entry, target in enumerate(self.rows[waiting[at]]):
                if target is not None and target not in origins:
                    origins[target] = (waiting[at], entry % self.width)
                    waiting.append(target)
            at += 1
        return way_back(origins, waiting[at])
