"""What the rests of texts make of the states of a machine in which the last name has been placed."""


class Rears:
    """The rears of a machine: what each rest leads the states to in which the last name is placed.

    A rest places the names of a set, a number like `left`. For each such set, `states` has a dict of those states in
    which just these names are left, with their indexes; `rears` has the list of the rears of the rests, as tuples of
    answers by these indexes; and `before` leads the entry of a letter to the list of the numbers of the rears that
    follow from the rears of this set when the letter, with the names placed at it, stands before the rest.
    """

    def __init__(self, machine):
        self.machine = machine
        self.last = 1 << (machine.count - 1)
        self.states = [{} for _ in range(self.last)]
        for state, left in enumerate(machine.lefts):
            if left < self.last:
                self.states[left][state] = len(self.states[left])
        self.rears = [[] for _ in range(self.last)]
        self.numbers = [{} for _ in range(self.last)]
        self.before = [{} for _ in range(self.last)]
        self.go_on()

    def go_on(self):
        """Finds all rears, beginning with the one of the empty rest."""
        self.number(0, tuple([self.machine.answers[state] for state in self.states[0]]))
        waiting = [0]
        done = [0 for _ in self.rears]
        while waiting:
            left = waiting.pop()
            while done[left] < len(self.rears[left]):
                rear = self.rears[left][done[left]]
                done[left] += 1
                waiting.extend(self.step(left, rear))

    def number(self, left, rear):
        """Returns the number of a rear of rests that place the names of this set."""
        numbers = self.numbers[left]
        if rear not in numbers:
            numbers[rear] = len(numbers)
            self.rears[left].append(rear)
        return numbers[rear]

    def step(self, left, rear):
        """Finds the rears for each letter before the rest; returns the sets of names for which there are new ones."""
        width = self.machine.width
        index = self.states[left]
        changed = []
        for chosen in range(self.last):
            if chosen & left == 0:
                both = left + chosen
                count = len(self.rears[both])
                for entry in range(chosen * width, (chosen + 1) * width):
                    row = [rear[index[self.machine.moves[state][entry]]] for state in self.states[both]]
                    self.before[left].setdefault(entry, []).append(self.number(both, tuple(row)))
                if len(self.rears[both]) > count:
                    changed.append(both)
        return changed

    def answers_of(self, state):
        """Returns, for a state in which the last name is placed, what the rears of its rests lead it to."""
        left = self.machine.lefts[state]
        at = self.states[left][state]
        return [rear[at] for rear in self.rears[left]]
