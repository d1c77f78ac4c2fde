"""Random programs of the sizes that questions should usually be answered for within a second, and ready ones."""

from textloops.programs import Program
from textloops.writing import parse_program

PAIRS = parse_program(
    "reads ab prints c\nfor x up:\n  if x in b:\n    for y up:\n      if (y before x and y in a):\n        print c"
)
AFTER_A = parse_program(
    "reads ab prints c\nmark m:\n  for x up:\n    if m:\n      print c\n    if x in a:\n      set m"
)
TWO_LOOPS = parse_program("""reads ab prints ab
mark m:
  mark n:
    for x up:
      if x in a:
        set m
      else:
        if m:
          set n
      for y down:
        if (y before x and not y in b):
          if n:
            print a
            clear n
          else:
            set n
        if (x at y or m):
          copy y
        else:
          if y in b:
            print b
            clear m
      if (m and n):
        print ab
        clear m
      if not n:
        copy x""")
FOUR_MARKS = parse_program("""reads ab prints ab
mark k:
  mark l:
    mark m:
      mark n:
        for x up:
          if x in a:
            if not n:
              set n
            else:
              clear n
              if not m:
                set m
              else:
                clear m
                if not l:
                  set l
                else:
                  clear l
                  if k:
                    print b
                    clear k
                  else:
                    set k
          if (k and not x in a):
            copy x""")


class Shaper:
    """Makes random programs over `ab` that print over `ab`."""

    def __init__(self, rng):
        self.rng = rng

    def leaf(self, loops, marks):
        kinds = ["print"] * 3 + (["copy"] if loops else []) + (["set", "set", "clear"] if marks else [])
        kind = self.rng.choice(kinds)
        if kind == "print":
            return (kind, self.rng.choice(["a", "b", "ab", "ba"]))
        return (kind, self.rng.choice(loops if kind == "copy" else marks))

    def test(self, loops, marks, deep=1):
        if deep and self.rng.random() < 0.35:
            word = self.rng.choice(["not", "and", "or"])
            tests = [self.test(loops, marks, deep - 1) for _ in range(1 if word == "not" else 2)]
            return (word, *tests)
        kinds = ["in", "in"] * bool(loops) + ["before", "same"] * (len(loops) > 1) + ["mark", "mark"] * bool(marks)
        kind = self.rng.choice(kinds)
        if kind == "mark":
            return (kind, self.rng.choice(marks))
        if kind == "in":
            return (kind, self.rng.choice(loops), self.rng.choice("ab"))
        return (kind, *self.rng.sample(loops, 2))

    def statements(self, loops, marks, size, deep=2):
        found = []
        while size > 0:
            if size > 1 and deep and (loops or marks) and self.rng.random() < 0.6:
                first = self.rng.randint(1, min(size - 1, 3))
                second = 1 if size - first > 1 and self.rng.random() < 0.3 else 0
                size -= 1 + first + second
                blocks = [self.statements(loops, marks, part, deep - 1) for part in (first, second)]
                found.append(("if", self.test(loops, marks), *blocks))
            else:
                found.append(self.leaf(loops, marks))
                size -= 1
        return found

    def way(self):
        return self.rng.choice(["up", "up", "down"])

    def two_loops(self):
        """Two loops within one another and two marks, around them or within them."""
        levels = [self.rng.choice([0, 1, 2]) for _ in range(2)]
        marks = [[name for name, at in zip("mn", levels) if at <= level] for level in range(3)]
        new = [[name for name, at in zip("mn", levels) if at == level] for level in range(3)]
        small = [self.rng.randint(0, most) for most in (4, 4, 2, 2)]
        inner = around(new[2], self.statements(["x", "y"], marks[2], self.rng.randint(4, 10)))
        body = self.statements(["x"], marks[1], small[0])
        body.append(("for", "y", self.way(), inner))
        body.extend(self.statements(["x"], marks[1], small[1]))
        block = self.statements([], marks[0], small[2])
        block.append(("for", "x", self.way(), around(new[1], body)))
        block.extend(self.statements([], marks[0], small[3]))
        return Program("ab", "ab", around(new[0], block))

    def four_marks(self):
        """One loop within four marks."""
        marks = ["m", "n", "k", "l"]
        body = self.statements(["x"], marks, self.rng.randint(8, 16), 3)
        block = self.statements([], marks, self.rng.randint(0, 2))
        block.append(("for", "x", self.way(), body))
        block.extend(self.statements([], marks, self.rng.randint(0, 2)))
        return Program("ab", "ab", around(marks, block))


def around(marks, block):
    for name in marks[::-1]:
        block = [("mark", name, block)]
    return block
