"""A hall once more, by the steps of tests/model.py and as the document words it, to hold the package's hall against."""

import copy
import math


def plain_key(path):
    return path + (math.inf,)


class HallModel:
    """Keeps only what happened to each task, and asks for all else anew whenever it is wanted."""

    def __init__(self, told, workers, limit):
        self.told = told
        self.limit = limit
        self.rows = {}
        for node in told.nodes:
            self.rows.setdefault(node[0], []).append(node)
        self.hands = [None] * workers
        self.hands[0] = ()
        # The owner's end is the first place.
        self.lanes = [[] for _ in range(workers)]
        self.steps_done = []
        self.begun = {()}
        self.parked = set()
        self.aside = set()
        self.log = []
        self.most = told.base

    def count(self, path):
        return sum(step[0] == path for step in self.steps_done)

    def ended(self):
        return {path for path in self.begun if self.count(path) == len(self.rows[path])}

    def first(self):
        return min(self.begun - self.ended(), key=plain_key, default=None)

    def taken(self):
        return self.told.base + sum(step[6] for step in self.steps_done)

    def next_step(self, path):
        return self.rows[path][self.count(path)]

    def parked_for(self, path):
        return self.next_step(path)[3]

    def has_room(self, path):
        step = self.next_step(path)
        return self.limit is None or not step[5] or self.taken() + step[6] <= self.limit

    def turn(self, worker, victim=None):
        self.log.append((worker,) + (self.idle_turn if self.hands[worker] is None else self.busy_turn)(worker, victim))
        if self.hands[worker] is None and self.lanes[worker] and self.log[-1][1] in ("step", "park", "aside"):
            self.hands[worker] = self.lanes[worker].pop(0)
        return self.log[-1]

    def busy_turn(self, worker, victim):
        path = self.hands[worker]
        step = self.next_step(path)
        if step[3] is not None and step[3] not in self.ended():
            self.hands[worker] = None
            self.parked.add(path)
            return ("park", path, step[3])
        if not self.has_room(path) and path != self.first():
            self.hands[worker] = None
            self.aside.add(path)
            return ("aside", path, None)
        self.steps_done.append(step)
        self.most = max(self.most, self.taken())
        if step[4] is not None:
            self.begun.add(step[4])
            self.lanes[worker].insert(0, path)
            self.hands[worker] = step[4]
        if step[7]:
            self.hands[worker] = None
            freed = {other for other in self.parked if self.parked_for(other) == path}
            self.parked -= freed
            for other in freed:
                ahead = [plain_key(lying) < plain_key(other) for lying in self.lanes[worker]] + [False]
                self.lanes[worker].insert(ahead.index(False), other)
        return ("step", path, step[1])

    def idle_turn(self, worker, victim):
        for path in sorted(self.aside, key=plain_key):
            if path == self.first() or self.has_room(path):
                self.aside.remove(path)
                self.hands[worker] = path
                return ("lift", path, None)
        many = len(self.hands)
        for other in [victim] if victim is not None else [*range(worker + 1, many), *range(worker)]:
            if self.lanes[other]:
                self.hands[worker] = self.lanes[other].pop()
                return ("steal", self.hands[worker], other)
        return ("rest", None, victim)

    def copied(self):
        other = copy.copy(self)
        other.hands, other.lanes = list(self.hands), [list(lane) for lane in self.lanes]
        other.steps_done, other.log = list(self.steps_done), list(self.log)
        other.begun, other.parked, other.aside = set(self.begun), set(self.parked), set(self.aside)
        return other

    def could_happen(self, entry):
        """The hall behind a turn by which just this entry is told, None where there is no such turn."""
        many = len(self.hands)
        for worker in range(many):
            for victim in [None] + [other for other in range(many) if other != worker]:
                other = self.copied()
                # Only what is written alike is just the same: True is no 1, and a list no tuple.
                if repr(other.turn(worker, victim)) == repr(entry):
                    return other
        return None

    def state(self):
        """All that a hall tells of itself."""
        ended = sorted((path, self.told.results[path]) for path in self.ended())
        return {"hands": self.hands, "lanes": self.lanes,
                "parked": sorted((path, self.parked_for(path)) for path in self.parked),
                "aside": sorted(self.aside, key=plain_key), "taken": self.taken(), "greatest": self.most,
                "first": self.first(), "done": self.first() is None, "outcome": dict(ended).get(()), "ended": ended,
                "log": self.log}


def could_be_log(told, workers, limit, log):
    """Whether a list is the log of a hall, by trying every turn for each entry."""
    hall = HallModel(told, workers, limit)
    for entry in log:
        hall = hall.could_happen(entry)
        if hall is None:
            return False
    return True
