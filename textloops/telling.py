"""Whether the lot of births of a program tells the text."""

from textloops.asking import useful_states
from textloops.checks import letter_indexes
from textloops.limits import check_limit
from textloops.lots import Lots
from textloops.machines import mapped
from textloops.printings import Printings, sorted_word
from textloops.searching import Seeker, least_found


def tells(program, *, within=None):
    """Returns None if different texts have different lots of births, otherwise the first two with the same one."""
    check_limit(program.reads, within)
    printings = Printings(program)
    machines = [mapped(printings.machine(names), sorted_word) for names in sorted(printings.chains)]
    lots = Lots(len(program.reads), machines)
    other = least_found(program.reads, [Other(lots, within)])
    if other is None:
        return None
    letters = letter_indexes(other, program.reads)
    return (least_found(program.reads, [Earlier(lots, within, letters)]), other)


class Twins(Seeker):
    """Goes over two texts with the same lot of births, of which the first one comes before the second one.

    A key has: -1, 0 or 1 for how the texts are ordered so far; the rears of both rests; the pairs of states that are
    kept of the lots; the states of the limit. The rear of the first text is None behind its end.
    """

    def __init__(self, lots, within):
        super().__init__([])
        self.lots = lots
        self.moves = [[0 for _ in range(lots.width)]] if within is None else within.moves
        self.answers = [True] if within is None else within.answers
        self.hopeful = {0: True} if within is None else useful_states(within)
        pairs, ends = lots.first_pairs()
        self.firsts = []
        for one in range(len(lots.rears)):
            for two in range(len(lots.rears)):
                if 0 in self.hopeful and lots.agree(ends, one, two):
                    self.firsts.append((0, one, two, pairs, 0, 0))

    def may_end(self, rear, state):
        """Tells whether a text whose rest has this rear may end here, with this state of the limit."""
        return rear == 0 and self.answers[state]

    def is_whole(self, key):
        """Tells whether both texts may end here."""
        order, one, two, _, first, second = key
        return order == -1 and self.may_end(two, second) and (one is None or self.may_end(one, first))

    def steps(self, key, letter, rests):
        """Returns pairs of a letter of the first text, or None, and a key behind it.

        In the second text this letter is read, and the rest behind it has one of these rears.
        """
        order, one, two, pairs, first, second = key
        found = []
        if self.moves[second][letter] not in self.hopeful:
            return found
        for own in self.letters_behind(one, first):
            kept, ends = self.lots.pairs_behind(pairs, own, letter)
            state = first if own is None else self.moves[first][own]
            sign = sign_behind(order, own, letter)
            own_rests = [None] if own is None else self.lots.shorter[one][own]
            for rest in own_rests:
                for other in rests:
                    if self.lots.agree(ends, rest, other):
                        found.append((own, (sign, rest, other, kept, state, self.moves[second][letter])))
        return found

    def letters_behind(self, rear, state):
        """Returns the letters that the first text can have next, and None for its end."""
        if rear is None:
            return [None]
        found = []
        for letter, target in enumerate(self.moves[state]):
            if target in self.hopeful and self.lots.shorter[rear][letter]:
                found.append(letter)
        return [*found, None] if self.may_end(rear, state) else found


def sign_behind(order, own, letter):
    """Returns how the letters are ordered behind two more letters; None is the end of the first text."""
    if own is None:
        return -1
    if order != 0 or own == letter:
        return order
    return -1 if own < letter else 1


class Other(Twins):
    """Looks for the second one of two texts with the same lot of births."""

    def __init__(self, lots, within):
        super().__init__(lots, within)
        self.starts = self.firsts
        self.taken = {}

    def take(self, key):
        order, one, two, mask, first, second = key
        self.taken.setdefault((order, one, two, first, second), []).append(mask)

    def is_hopeless(self, key):
        """Tells whether a key was taken that is the same but for pairs that it does not keep.

        It does not matter then, either, if its letters were ordered as they have to be at the end.
        """
        order, one, two, mask, first, second = key
        masks = self.taken.get((-1, one, two, first, second), [])
        if order != -1:
            masks = masks + self.taken.get((order, one, two, first, second), [])
        return any([old & mask == old for old in masks])

    def is_end(self, key):
        return self.is_whole(key)

    def behind(self, key):
        """Returns, for each letter of the second text, the list of the keys behind it."""
        found = []
        for letter in range(self.lots.width):
            steps = self.steps(key, letter, self.lots.shorter[key[2]][letter])
            found.append(list({step[1]: True for step in steps}))
        return found


class Earlier(Twins):
    """Looks for the first one of two texts with the same lot of births, the second one being known.

    Its keys are those of the twins together with the number of letters that have been read.
    """

    def __init__(self, lots, within, letters):
        super().__init__(lots, within)
        self.letters = letters
        self.rests = [0]
        for letter in letters[::-1]:
            self.rests.append(lots.longer[self.rests[-1]][letter])
        self.rests.reverse()
        self.starts = [(0, key) for key in self.firsts if key[2] == self.rests[0]]

    def behind(self, key):
        """Returns, for each letter of the first text, the list of the keys behind it."""
        found = [[] for _ in range(self.lots.width)]
        for letter, target in self.next_steps(key):
            if letter is not None:
                found[letter].append(target)
        return found

    def next_steps(self, key):
        at, own = key
        steps = self.steps(own, self.letters[at], [self.rests[at + 1]])
        return [(letter, (at + 1, target)) for letter, target in steps]

    def is_end(self, key):
        """Tells whether the first text may end here, so that the rest of the second one prints nothing else."""
        while key[0] < len(self.letters):
            ended = [target for letter, target in self.next_steps(key) if letter is None]
            if not ended:
                return False
            key = ended[0]
        return self.is_whole(key[1])
