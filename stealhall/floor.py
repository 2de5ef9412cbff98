"""The floor of a hall: who has which tasks, which of them are parked or aside, and what a turn does to this."""

from stealhall.forms import is_whole, is_whole_within
from stealhall.lanes import Lane, fitting_place, lane_twin
from stealhall.tasks import CHANGE, ENDED, STARTED

MOST_WORKERS = 8
MOST_LIMIT = 10 ** 9


def are_workers(thing):
    """Tell whether a hall can have so many workers."""
    return is_whole(thing) and 1 <= thing <= MOST_WORKERS


def is_limit(thing):
    """Tell whether a hall can have this limit."""
    return thing is None or is_whole_within(thing, MOST_LIMIT)


class Floor:
    """The hands and lanes of workers, and the tasks that are in none of them.

    running is what the tasks go on by: of a task's next row it tells by waited(path) the path waited for or None, by
    wanted(path) the room of the frame begun or None; by step(path) it does the row and tells the step as a web does.
    """

    def __init__(self, running, workers, limit, room):
        self.running = running
        self.limit = limit
        self.hands = [()] + [None] * (workers - 1)
        self.lanes = [Lane() for worker in range(workers)]
        # What each parked task waits for.
        self.waits = {}
        # Both of these are kept in plain order.
        self.tasks_aside = []
        self.living = [()]
        self.room = room
        self.most = room

    def is_worker(self, thing):
        return is_whole_within(thing, len(self.hands) - 1)

    def is_turn(self, worker, victim):
        """Tell whether two things are a worker and another one or None."""
        if not self.is_worker(worker):
            return False
        return victim is None or (self.is_worker(victim) and victim != worker)

    def do_turn(self, worker, victim):
        """Do a turn; tell what happens."""
        path = self.hands[worker]
        if path is None:
            return self.turn_of_empty_hand(worker, victim)
        waited = self.running.waited(path)
        # Where the row waits for nothing this is None, which is no living task.
        if waited in self.living:
            self.waits[path] = waited
            self.empty_hand(worker)
            return (worker, "park", path, waited)
        if not self.may_go_on(path):
            self.tasks_aside.insert(fitting_place(self.tasks_aside, path), path)
            self.empty_hand(worker)
            return (worker, "aside", path, None)
        return (worker, "step", path, self.do_row(worker, path))

    def may_go_on(self, path):
        """Tell whether the limit lets a task do its next row."""
        if self.limit is None or path == self.living[0]:
            return True
        wanted = self.running.wanted(path)
        return wanted is None or self.room + wanted <= self.limit

    def do_row(self, worker, path):
        """Do the next row of the task in a worker's hand; tell the number of the step."""
        node = self.running.step(path)
        self.room += node[CHANGE]
        self.most = max(self.most, self.room)
        started = node[STARTED]
        if started is not None:
            # Of all living tasks only those that it started itself come between, and these are ahead of the new one.
            self.living.insert(self.living.index(path), started)
            self.lanes[worker].lay(path)
            self.hands[worker] = started
        if node[ENDED]:
            self.end_task(worker, path)
        return node[1]

    def end_task(self, worker, path):
        """Take the ended task out of a worker's hand, and those parked for it into its lane."""
        self.living.remove(path)
        waiters = [parked for parked in self.waits if self.waits[parked] == path]
        for waiter in waiters:
            del self.waits[waiter]
            self.lanes[worker].fit(waiter)
        self.empty_hand(worker)

    def empty_hand(self, worker):
        """Empty a hand, into which what is next in its lane comes at once."""
        lane = self.lanes[worker]
        self.hands[worker] = lane.draw() if len(lane) > 0 else None

    def turn_of_empty_hand(self, worker, victim):
        lifted = self.liftable()
        if lifted is not None:
            self.tasks_aside.remove(lifted)
            self.hands[worker] = lifted
            return (worker, "lift", lifted, None)
        robbed = self.robbed_worker(worker, victim)
        if robbed is None:
            return (worker, "rest", None, victim)
        path = self.lanes[robbed].rob()
        self.hands[worker] = path
        return (worker, "steal", path, robbed)

    def liftable(self):
        """Tell the task aside that would be lifted now, or None."""
        for path in self.tasks_aside:
            if self.may_go_on(path):
                return path
        return None

    def robbed_worker(self, worker, victim):
        """Tell the worker whom this one would rob now, or None."""
        many = len(self.hands)
        others = [(worker + far) % many for far in range(1, many)] if victim is None else [victim]
        for other in others:
            if len(self.lanes[other]) > 0:
                return other
        return None


def floor_twin(floor, running):
    """Tell a floor that stands as this one does, over a twin of what its tasks go on by."""
    other = Floor(running, len(floor.hands), floor.limit, floor.room)
    other.hands = list(floor.hands)
    other.lanes = [lane_twin(lane) for lane in floor.lanes]
    other.waits = {path: floor.waits[path] for path in floor.waits}
    other.tasks_aside = list(floor.tasks_aside)
    other.living = list(floor.living)
    other.most = floor.most
    return other
