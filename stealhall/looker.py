"""The looker: whether papers about a run are so, by its web alone; it refuses nothing, whatever it is handed."""

from stealhall.floor import Floor, are_workers, is_limit
from stealhall.forms import is_tuple_of, is_whole
from stealhall.tasks import BEGUN, CHANGE, WAITED
from stealhall.web import loose_ends


class Retelling:
    """The tasks of a run, which go on by the steps that its web tells."""

    def __init__(self, nodes):
        # The steps of each task in their order, and how many of them were done.
        self.nodes_by_path = {}
        self.counts = {}
        for node in nodes:
            self.nodes_by_path.setdefault(node[0], []).append(node)
            self.counts[node[0]] = 0

    def upcoming(self, path):
        """Tell a task's next step."""
        return self.nodes_by_path[path][self.counts[path]]

    def waited(self, path):
        """Tell the path for which a task's next row waits, or None."""
        return self.upcoming(path)[WAITED]

    def wanted(self, path):
        """Tell the room of the frame that a task's next row begins, or None."""
        node = self.upcoming(path)
        return node[CHANGE] if node[BEGUN] else None

    def step(self, path):
        """Go on behind a task's next step; tell it."""
        node = self.upcoming(path)
        self.counts[path] += 1
        return node


def log_holds(web, workers, limit, log):
    """Tell whether this is the log of some hall of the web's run with so many workers and this limit."""
    if not are_workers(workers) or not is_limit(limit) or not isinstance(log, list):
        return False
    floor = Floor(Retelling(web.nodes()), workers, limit, web.base())
    for entry in log:
        if not entry_holds(floor, entry):
            return False
    return True


def entry_holds(floor, entry):
    """Do the only turn by which an entry of a log can come about; tell whether it is what happens."""
    if not is_tuple_of(entry, 4):
        return False
    worker, word, path, more = entry
    victim = more if word in ("steal", "rest") else None
    return floor.is_turn(worker, victim) and is_just(entry, floor.do_turn(worker, victim))


def is_just(thing, told):
    """Tell whether thing is just this, which has no truths in it; Python takes True for 1."""
    return thing == told and not has_truth(thing)


def has_truth(thing):
    """Tell whether thing is True or False, or a tuple with such in it."""
    if isinstance(thing, tuple):
        return any([has_truth(part) for part in thing])
    return isinstance(thing, bool)


def chain_holds(web, chain):
    """Tell whether this is a chain of the web."""
    if not isinstance(chain, list) or len(chain) == 0:
        return False
    steps = {node[:2]: True for node in web.nodes()}
    if not all([is_step(step, steps) for step in chain]):
        return False
    return all([ahead in web.comes_of(step[0], step[1]) for ahead, step in zip(chain, chain[1:])])


def is_step(thing, steps):
    """Tell whether thing is one of these steps, which are keys."""
    # Only what is made of tuples and numbers alone can be asked for among keys.
    if not is_tuple_of(thing, 2) or not is_path(thing[0]) or not is_whole(thing[1]):
        return False
    return thing in steps


def is_path(thing):
    return isinstance(thing, tuple) and all([is_whole(part) for part in thing])


def levels_hold(web, numbers):
    """Tell whether these are a number for each step of the web, each greater than those of what it comes of."""
    nodes = web.nodes()
    if not isinstance(numbers, list) or len(numbers) != len(nodes):
        return False
    if not all([is_whole(number) and number >= 1 for number in numbers]):
        return False
    found = {node[:2]: number for node, number in zip(nodes, numbers)}
    return all([found[source] < found[step] for step in found for source in web.comes_of(step[0], step[1])])


def loose_holds(web, end):
    """Tell whether this is a started task that isn't kept within, with the word that tells in what way."""
    return any([is_just(end, told) for told in loose_ends(web.nodes())])
