"""Books of many kinds, made by a chance that is handed in with its seed, so that they are always the same."""

NAMES = ("a", "b", "c", "d")
FUTURES = ("p", "q", "r")
HANDED = ((), ("a",), ("a", "b"), ("a", "b", "c"), ("p",), ("a", "p"), ("q", "a", "p", "b"))
SMALL = (0, 0, 1, 1, 2, 3, 10)
LARGE = (10 ** 15, 10 ** 29, 10 ** 30 - 1)
SIGNS = ("+", "+", "-", "-", "*", "<", "<", "==")


def random_works(chance, starts=True):
    """A list of one to four works that make a book; without starts none of them has a go or call."""
    heads = [(name, chance.choice(HANDED[:4] if name == "f" else HANDED), chance.choice((0, 1, 2, 3, 7, 20)))
             for name in ("f", "g", "h", "k")[:chance.randint(1, 4)]]
    return [("work", *head, Writer(chance, heads, at, starts).rows(0)) for at, head in enumerate(heads)]


class Writer:
    """Makes the rows of one work, mostly by names that stand for what is wanted there."""

    def __init__(self, chance, heads, at, starts):
        self.chance = chance
        self.heads = heads
        self.at = at
        self.starts = starts
        self.left = 40
        self.numbers = [name for name in heads[at][1] if name in NAMES]
        self.futures = [name for name in heads[at][1] if name in FUTURES]

    def rows(self, depth):
        rows = []
        for _ in range(self.chance.randint(0 if depth else 2, (9, 3, 2, 1)[depth])):
            if self.left:
                self.left -= 1
                rows.append(self.row(depth))
        return tuple(rows)

    def row(self, depth):
        kinds = ["put"] * 8 + ["go", "go", "call"] * 5 * self.starts + ["wait"] * (15 if self.futures else 1)
        kind = self.chance.choice(kinds + ["give", "fail"] + ["give"] * 4 * depth + ["if"] * 6 * (depth < 3))
        if kind in ("go", "call") and (self.heads[self.at + 1:] or self.chance.random() < 0.1):
            return self.start(kind)
        if kind == "wait":
            return self.wait()
        if kind == "if":
            return ("if", self.tree(2), self.branch(depth + 1), self.branch(depth + 1))
        if kind in ("give", "fail"):
            return (kind, self.tree(self.chance.choice((1, 2)), futures=kind == "give"))
        return self.put()

    def branch(self, depth):
        """Rows of an if; the names that they give something are not counted on behind them."""
        numbers, futures = list(self.numbers), list(self.futures)
        rows = self.rows(depth)
        self.numbers, self.futures = numbers, futures
        return rows

    def put(self):
        if self.futures and self.chance.random() < 0.15:
            name = self.chance.choice(FUTURES)
            row = ("put", name, ("name", self.chance.choice(self.futures)))
            self.futures.append(name)
            return row
        tree = self.tree(self.chance.choice((1, 2, 3, 4)))
        return ("put", self.number_name(), tree)

    def start(self, word):
        # Works further behind are chosen more often than others, as a run of those comes to its end.
        behind = self.heads[self.at + 1:]
        name, names, _ = self.chance.choice(behind if behind and self.chance.random() < 0.9 else self.heads)
        handed = tuple(self.handed(name) for name in names)
        if word == "call":
            return (word, self.number_name(), name, handed)
        future = self.chance.choice(FUTURES)
        self.futures.append(future)
        return (word, future, name, handed)

    def handed(self, name):
        if name in FUTURES and self.futures and self.chance.random() < 0.8:
            return ("name", self.chance.choice(self.futures))
        return self.tree(2, futures=True)

    def wait(self):
        usual = self.futures and self.chance.random() < 0.97
        waited = self.chance.choice(self.futures if usual else NAMES + FUTURES)
        otherwise = self.tree(2, futures=True) if self.chance.random() < 0.4 else None
        return ("wait", self.number_name(), waited, otherwise)

    def number_name(self):
        name = self.chance.choice(NAMES)
        self.numbers.append(name)
        return name

    def tree(self, depth, futures=False):
        if depth > 1 and self.chance.random() < 0.6:
            return (self.chance.choice(SIGNS), self.tree(depth - 1), self.tree(depth - 1))
        if futures and self.futures and self.chance.random() < 0.25:
            return ("name", self.chance.choice(self.futures))
        if self.numbers and self.chance.random() < 0.7:
            return ("name", self.chance.choice(self.numbers))
        if self.chance.random() < 0.02:
            return ("name", self.chance.choice(NAMES + FUTURES))
        return ("number", self.chance.choice(SMALL if self.chance.random() < 0.95 else LARGE))


BUSY_FUTURES = ("p", "q", "r", "s", "t", "u", "v", "w", "x", "y", "z")


def busy_works(chance, kept=False):
    """One to four works, each handed a number and perhaps a future, with many goes and waits that seldom fail.

    Where they are kept within, each frame waits for all that it starts, and none for anything else.
    """
    heads = [(name, ("n", "p") if at and not kept and chance.random() < 0.4 else ("n",), chance.choice((0, 1, 2, 5)))
             for at, name in enumerate(("f", "g", "h", "k")[:chance.randint(1, 4)])]
    return [("work", *head, BusyWriter(chance, heads, at, kept).rows()) for at, head in enumerate(heads)]


class BusyWriter:
    """Makes the rows of one work; it ends at once where its n is below 1, and hands on less than n to itself."""

    def __init__(self, chance, heads, at, kept):
        self.chance = chance
        self.heads = heads
        self.at = at
        self.kept = kept
        self.futures = list(heads[at][1][1:])
        self.unwaited = []

    def rows(self):
        rows = [("if", ("<", ("name", "n"), ("number", 1)), (("give", ("number", self.at)),), ())]
        for _ in range(self.chance.randint(2, 7)):
            rows.append(self.row())
        if self.kept or self.chance.random() < 0.5:
            rows.extend(("wait", "b", future, ("number", 1)) for future in dict.fromkeys(self.unwaited))
        return (*rows, self.last_row())

    def row(self):
        kind = self.chance.choice(("go", "go", "go", "call", "wait", "wait", "put", "if"))
        if kind in ("go", "call"):
            return self.start(kind)
        if kind == "wait" and self.futures:
            future = self.chance.choice(self.futures)
            self.unwaited = [other for other in self.unwaited if other != future]
            return ("wait", "a", future, self.chance.choice((None, ("number", 2))) if not self.kept else ("number", 2))
        if kind == "if" and not self.kept:
            return ("if", ("<", ("name", "n"), ("number", 2)), (("put", "a", ("number", 1)),), (self.start("go", False),))
        return ("put", "a", ("*", ("name", "n"), ("number", self.chance.randint(0, 3))))

    def start(self, word, counted=True):
        name, names, _ = self.chance.choice(self.heads[self.at:])
        less = self.chance.choice((1, 1, 1, 2))
        handed = [("-", ("name", "n"), ("number", less))]
        if len(names) == 2:
            handed.append(("name", self.chance.choice(self.futures or ["n"])))
        # A name that is given another future would leave the first one unwaited for.
        future = BUSY_FUTURES[len(self.futures)] if self.kept else self.chance.choice(BUSY_FUTURES[:5])
        if word == "go" and counted:
            self.futures.append(future)
            self.unwaited.append(future)
        return (word, "c" if word == "call" else future, name, tuple(handed))

    def last_row(self):
        if self.futures and not self.kept and self.chance.random() < 0.15:
            return ("give", ("name", self.chance.choice(self.futures)))
        return self.chance.choice((("give", ("name", "n")), ("give", ("name", "n")), ("fail", ("name", "n"))))
