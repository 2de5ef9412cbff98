"""The web of a run: its steps in plain order, and which of them comes of which."""

from stealhall.plain import BUDGET, first_task, most_taken, walk
from stealhall.tasks import ENDED, FRAME, STARTED, WAITED, room_of


class Web:
    """The steps of a work's plain run with these numbers."""

    def __init__(self, book, name, args, *, budget=BUDGET):
        main = first_task(book, name, args)
        self.first_room = room_of(main)
        self.order = walk(main, book, budget)[0]
        # A step is named by the first two parts of what is told of it: its task's path and its number there.
        self.starters = {node[STARTED]: node[:2] for node in self.order if node[STARTED] is not None}
        self.enders = {node[0]: node[:2] for node in self.order if node[ENDED]}
        self.waits = {node[:2]: node[WAITED] for node in self.order if node[WAITED] is not None}

    def nodes(self):
        """Tell the steps, each by its eight parts."""
        return list(self.order)

    def comes_of(self, path, n):
        """Tell the steps that a step comes of, sorted."""
        sources = []
        if n > 0:
            sources.append((path, n - 1))
        elif path in self.starters:
            sources.append(self.starters[path])
        waited = self.waits.get((path, n))
        if waited is not None:
            sources.append(self.enders[waited])
        return sorted(sources)

    def base(self):
        """Tell the room of the first frame."""
        return self.first_room

    def largest(self):
        """Tell the most room that the plain run takes at once."""
        return most_taken(self.first_room, self.order)

    def loose(self):
        """Tell the least started task that isn't kept within, and in what way it isn't, or None."""
        ends = loose_ends(self.order)
        return ends[0] if ends else None

    def __len__(self):
        return len(self.order)


def loose_ends(nodes):
    """Tell each started task that isn't kept within, and in what way it isn't, sorted by the paths."""
    starters = {node[STARTED]: frame_of(node) for node in nodes if node[STARTED] is not None}
    waiters = {path: [] for path in starters}
    for node in nodes:
        if node[WAITED] is not None:
            waiters[node[WAITED]].append(frame_of(node))
    words = [(path, loose_word(starters[path], waiters[path])) for path in sorted(starters)]
    return [(path, word) for path, word in words if word is not None]


def frame_of(node):
    """Tell a step's frame by its task's path and its number there."""
    return (node[0], node[FRAME])


def loose_word(starter, waiters):
    """Tell in what way a task isn't kept within, by the frame that started it and those that waited for it, or None."""
    if starter not in waiters:
        return "left"
    return "other" if any([waiter != starter for waiter in waiters]) else None
