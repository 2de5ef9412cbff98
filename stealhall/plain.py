"""The plain run: one row after the other, a started task to its end ahead of all else."""

from stealhall.errors import BadArgs, Broken, Spent
from stealhall.forms import MOST_NUMBER, is_whole
from stealhall.tasks import CHANGE, Task, do_step, frame_of_work, room_of

BUDGET = 400


def serial(book, name, args, *, budget=BUDGET):
    """Do the plain run of a work with these numbers."""
    main = first_task(book, name, args)
    room = room_of(main)
    nodes, results = walk(main, book, budget)
    return Run(results, len(nodes), most_taken(room, nodes))


def got(result):
    """Tell what a task with this result gives."""
    word, worth = result
    if word == "fails":
        raise Broken(worth)
    return worth


class Run:
    """What a plain run came to: the main task's result, how many steps it took, and the most room at once."""

    def __init__(self, results, count, most):
        self.result = results[()]
        self.count = count
        self.most = most
        self.results = results

    def ends(self):
        """Tell the path and the result of each task, sorted."""
        return sorted([(path, self.results[path]) for path in self.results])


def first_task(book, name, args):
    """Tell the main task of a run at its beginning."""
    work = book.tree(name)
    if not are_numbers(args, len(work[2])):
        raise BadArgs("the work is handed other numbers than these")
    return Task((), [frame_of_work(work, args)])


def are_numbers(thing, many):
    """Tell whether thing is a list of so many whole numbers that a work can be handed."""
    if not isinstance(thing, list) or len(thing) != many:
        return False
    return all([is_whole(part) and abs(part) <= MOST_NUMBER for part in thing])


def walk(main, book, budget):
    """Do a main task to its end; tell the steps as a web tells them, and by its path what each task came to."""
    nodes = []
    results = {}
    # Each task here was started by the one ahead of it, which goes on when it has ended.
    living = [main]
    while living:
        if len(nodes) >= budget:
            raise Spent(budget)
        task = living[-1]
        node, started = do_step(task, book, results)
        nodes.append(node)
        if started is not None:
            living.append(started)
        elif task.result is not None:
            results[task.path] = task.result
            living.pop()
    return nodes, results


def most_taken(room, nodes):
    """Tell the most room at once of a run that begins with so much and has these steps."""
    most = room
    for node in nodes:
        room += node[CHANGE]
        most = max(most, room)
    return most
