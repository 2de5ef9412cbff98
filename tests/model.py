"""The plain run once more, straight by the rows and by Python's own calls, to hold the package's run against."""


class Fails(Exception):
    """What ends a task, with its number."""


class Spent(Exception):
    pass


def is_future(worth):
    return isinstance(worth, tuple)


def reckon(tree, names):
    kind, *parts = tree
    if kind == "number":
        return parts[0]
    if kind == "name":
        if parts[0] not in names:
            raise Fails(-1)
        return names[parts[0]]
    left, right = [reckon(part, names) for part in parts]
    if is_future(left) or is_future(right):
        raise Fails(-2)
    worth = {"+": left + right, "-": left - right, "*": left * right, "<": int(left < right),
             "==": int(left == right)}[kind]
    if len(str(abs(worth))) > 30:
        raise Fails(-4)
    return worth


def reckon_number(tree, names):
    worth = reckon(tree, names)
    if is_future(worth):
        raise Fails(-2)
    return worth


class Model:
    """What a plain run tells: results, the steps by their eight parts, the room at its beginning and at most."""

    def __init__(self, works, name, args, budget=400):
        self.works = {work[1]: work for work in works}
        self.budget = budget
        self.results = {}
        self.steps = []
        self.base = self.works[name][3]
        self.task((), self.works[name], args, 1)
        self.result = self.results[()]
        self.nodes = [tuple(step.values()) for step in self.steps]
        rooms = [self.base]
        for step in self.steps:
            rooms.append(rooms[-1] + step["change"])
        self.most = max(rooms)
        assert rooms[-1] == 0

    def task(self, path, work, handed, depth):
        task = {"path": path, "steps": 0, "goes": 0, "begun": 0, "rooms": [], "last": None}
        try:
            self.results[path] = ("gives", self.frame(task, work, handed, depth))
        except Fails as failure:
            task["last"]["change"] = -sum(task["rooms"])
            self.results[path] = ("fails", failure.args[0])
        task["last"]["ended"] = True

    def frame(self, task, work, handed, depth):
        names = dict(zip(work[2], handed))
        number = task["begun"]
        task["begun"] += 1
        task["rooms"].append(work[3])
        given = self.rows(task, number, work[4] + (("give", ("number", 0)),), names, depth)
        task["last"]["change"] = -task["rooms"].pop()
        return given

    def step(self, task, number):
        if len(self.steps) == self.budget:
            raise Spent
        step = {"path": task["path"], "n": task["steps"], "frame": number, "waited": None, "started": None,
                "begun": False, "change": 0, "ended": False}
        self.steps.append(step)
        task["steps"] += 1
        task["last"] = step
        return step

    def rows(self, task, number, rows, names, depth):
        """What the rows give, or None where none of them is a give."""
        for row in rows:
            step = self.step(task, number)
            if row[0] == "give":
                return reckon(row[1], names)
            if row[0] == "if":
                chosen = row[2] if reckon_number(row[1], names) else row[3]
                given = self.rows(task, number, chosen, names, depth)
                if given is not None:
                    return given
            else:
                getattr(self, "do_" + row[0])(task, step, row, names, depth)
        return None

    def do_put(self, task, step, row, names, depth):
        names[row[1]] = reckon(row[2], names)

    def do_fail(self, task, step, row, names, depth):
        raise Fails(reckon_number(row[1], names))

    def do_go(self, task, step, row, names, depth):
        work, handed = self.begin(step, row, names, depth)
        path = task["path"] + (task["goes"],)
        task["goes"] += 1
        step["started"] = path
        self.task(path, work, handed, depth + 1)
        names[row[1]] = ("future", path)

    def do_call(self, task, step, row, names, depth):
        work, handed = self.begin(step, row, names, depth)
        names[row[1]] = self.frame(task, work, handed, depth + 1)

    def begin(self, step, row, names, depth):
        handed = [reckon(tree, names) for tree in row[3]]
        if depth == 30:
            raise Fails(-5)
        work = self.works[row[2]]
        step["begun"] = True
        step["change"] = work[3]
        return work, handed

    def do_wait(self, task, step, row, names, depth):
        if row[2] not in names:
            raise Fails(-1)
        if not is_future(names[row[2]]):
            raise Fails(-3)
        step["waited"] = names[row[2]][1]
        word, worth = self.results[step["waited"]]
        if word == "fails" and row[3] is None:
            raise Fails(worth)
        names[row[1]] = reckon(row[3], names) if word == "fails" else worth

    def comes_of(self, path, n):
        """The steps of which one comes, by looking through all of them."""
        wanted = [step for step in self.steps if (step["path"], step["n"]) == (path, n)][0]
        found = []
        for step in self.steps:
            ahead = (step["path"], step["n"]) == (path, n - 1)
            starts = n == 0 and step["started"] == path
            awaited = step["ended"] and step["path"] == wanted["waited"]
            if ahead or starts or awaited:
                found.append((step["path"], step["n"]))
        return sorted(found)

    def loose(self):
        found = []
        for go in self.steps:
            if go["started"] is not None:
                starter = (go["path"], go["frame"])
                waiters = {(step["path"], step["frame"]) for step in self.steps if step["waited"] == go["started"]}
                if waiters != {starter}:
                    found.append((go["started"], "other" if starter in waiters else "left"))
        return min(found) if found else None
