"""The hall: workers who do the tasks of a run, and take them out of one another's lanes."""

from stealhall.errors import BadHall, BadTurn
from stealhall.floor import Floor, are_workers, floor_twin, is_limit
from stealhall.plain import BUDGET, first_task, walk
from stealhall.running import Running, running_twin
from stealhall.tasks import room_of

WORKERS = 2


class Hall:
    """A run of a work with these numbers by several workers, each with a hand and a lane, and perhaps a limit."""

    def __init__(self, book, name, args, *, workers=WORKERS, limit=None, budget=BUDGET):
        main = first_task(book, name, args)
        if not are_workers(workers) or not is_limit(limit):
            raise BadHall("no hall has so many workers or this limit")
        # Only a twin has no budget, as its run was looked at before.
        if budget is not None:
            walk(first_task(book, name, args), book, budget)
        self.beginning = (book, name, tuple(args))
        self.workers = workers
        self.running = Running(book, {(): main}, {})
        self.floor = Floor(self.running, workers, limit, room_of(main))
        self.happenings = []
        self.woven = []
        self.working = False

    def turn(self, worker, *, victim=None):
        """Do a turn of a worker; tell what happens."""
        if not self.floor.is_turn(worker, victim):
            raise BadTurn(0)
        happening = self.floor.do_turn(worker, victim)
        self.happenings.append(happening)
        return happening

    def hand(self, worker):
        """Tell the task in a worker's hand, None where it is empty."""
        self.check_worker(worker)
        return self.floor.hands[worker]

    def lane(self, worker):
        """Tell the tasks in a worker's lane from the owner's end on."""
        self.check_worker(worker)
        return self.floor.lanes[worker].things()

    def check_worker(self, thing):
        """Refuse what is no worker."""
        if not self.floor.is_worker(thing):
            raise BadTurn(0)

    def parked(self):
        """Tell each parked task and the one that it waits for, sorted."""
        waits = self.floor.waits
        return sorted([(path, waits[path]) for path in waits])

    def aside(self):
        """Tell the tasks that are aside in plain order."""
        return list(self.floor.tasks_aside)

    def taken(self):
        """Tell the room that is taken now."""
        return self.floor.room

    def greatest(self):
        """Tell the most room that was taken at once so far."""
        return self.floor.most

    def first(self):
        """Tell the living task that is ahead of all others in plain order, or None."""
        return None if self.done() else self.floor.living[0]

    def done(self):
        """Tell whether all tasks have ended."""
        return len(self.floor.living) == 0

    def outcome(self):
        """Tell the main task's result, None where it has not ended."""
        return self.running.results.get(())

    def ended(self):
        """Tell the path and the result of each task that has ended, sorted."""
        results = self.running.results
        return sorted([(path, results[path]) for path in results])

    def log(self):
        """Tell what happened by each turn from the beginning on."""
        return list(self.happenings)

    def at_work(self):
        """Tell whether a weaving of this hall is under way."""
        return self.working

    def weavings(self):
        """Tell how many turns each weaving did."""
        return list(self.woven)

    def twin(self):
        """Tell a hall that stands as this one does, and from there on has nothing in common with it."""
        book, name, args = self.beginning
        other = Hall(book, name, list(args), workers=self.workers, limit=self.floor.limit, budget=None)
        other.running = running_twin(self.running)
        other.floor = floor_twin(self.floor, other.running)
        other.happenings = self.log()
        other.woven = self.weavings()
        return other
