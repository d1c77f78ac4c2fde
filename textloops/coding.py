"""Programs as flat rows of orders, which are followed without going deep into blocks."""

from textloops.conditions import tests_within
from textloops.outlines import Outline


class Coder:
    """Makes the orders of a program: tuples `(word, one, two, yes, no)`, `yes` and `no` being where to go on.

    With an order "stop" the run comes to a statement of one of the given kinds.
    """

    def __init__(self, program, kinds):
        self.outline = Outline(program.block)
        self.kinds = kinds
        self.loop_of = numbered([part[1] for part in self.outline.statements if part[0] == "for"])
        self.mark_of = numbered([part[1] for part in self.outline.statements if part[0] == "mark"])
        self.orders = []
        self.labels = []
        self.waiting = []

    def made(self):
        """Returns the orders."""
        self.wait(self.block_tasks(self.outline.block))
        while self.waiting:
            task = self.waiting.pop()
            if task[0] == "label":
                self.labels[task[1]] = len(self.orders)
            elif task[0] == "go":
                self.order("go", yes=task[1])
            elif task[0] == "test":
                self.add_test(task[1], task[2], task[3])
            else:
                self.add_statement(task[1])
        self.order("end")
        found = []
        for word, one, two, yes, no in self.orders:
            found.append((word, one, two, self.position(yes), self.position(no)))
        return found

    def position(self, label):
        return None if label is None else self.labels[label]

    def wait(self, tasks):
        self.waiting.extend(tasks[::-1])

    def fresh(self):
        """Returns a new label."""
        self.labels.append(0)
        return len(self.labels) - 1

    def order(self, word, one=None, two=None, yes=None, no=None):
        self.orders.append((word, one, two, yes, no))

    def block_tasks(self, block):
        return [("statement", spot) for spot in block]

    def add_statement(self, spot):
        """Makes the orders of a statement."""
        statement = self.outline.statements[spot]
        blocks = self.outline.blocks[spot]
        if statement[0] in self.kinds:
            self.order("stop", spot)
        if statement[0] == "for":
            self.add_loop(self.loop_of[statement[1]], statement[2], blocks[0])
        elif statement[0] == "mark":
            self.order("put", self.mark_of[statement[1]], False)
            self.wait(self.block_tasks(blocks[0]))
        elif statement[0] in ("set", "clear"):
            self.order("put", self.mark_of[statement[1]], statement[0] == "set")
        elif statement[0] == "if":
            self.add_if(statement[1], blocks)

    def add_loop(self, loop, way, block):
        head, body, behind = self.fresh(), self.fresh(), self.fresh()
        self.order("first", loop, way == "up")
        self.labels[head] = len(self.orders)
        self.order("next", loop, 1 if way == "up" else -1, yes=body, no=behind)
        self.wait([("label", body), *self.block_tasks(block), ("go", head), ("label", behind)])

    def add_if(self, test, blocks):
        first, second, behind = self.fresh(), self.fresh(), self.fresh()
        self.wait([
            ("test", test, first, second),
            ("label", first), *self.block_tasks(blocks[0]), ("go", behind),
            ("label", second), *self.block_tasks(blocks[1]), ("label", behind),
        ])

    def add_test(self, test, yes, no):
        """Makes the orders of a test, which go on at the label `yes` if it holds and otherwise at the label `no`."""
        if test[0] == "not":
            self.wait([("test", test[1], no, yes)])
        elif test[0] in ("and", "or"):
            between = self.fresh()
            first, second = tests_within(test)
            ways = (between, no) if test[0] == "and" else (yes, between)
            self.wait([("test", first, *ways), ("label", between), ("test", second, yes, no)])
        elif test[0] == "mark":
            self.order("mark", self.mark_of[test[1]], yes=yes, no=no)
        elif test[0] == "in":
            self.order("in", self.loop_of[test[1]], test[2], yes, no)
        else:
            self.order(test[0], self.loop_of[test[1]], self.loop_of[test[2]], yes, no)


def numbered(names):
    return {name: number for number, name in enumerate(names)}
