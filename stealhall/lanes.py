"""The plain order of paths, and lanes in which paths lie."""

from stealhall.errors import Bare


def is_ahead(one, other):
    """Tell whether one path is ahead of another in plain order."""
    shared = min(len(one), len(other))
    if one[:shared] == other[:shared]:
        return len(one) > len(other)
    return one < other


def in_order(paths):
    """Tell these paths in plain order."""
    return sorted(paths, key=order_key)


def order_key(path):
    """Tell what puts a path into plain order when it is sorted by it."""
    # The end of a path counts as more than any number, so what goes on from it is ahead.
    return (*[(0, number) for number in path], (1, 0))


def fitting_place(paths, path):
    """Tell the place of the first of these paths that isn't ahead of this one, or that behind them all."""
    for at, other in enumerate(paths):
        if not is_ahead(other, path):
            return at
    return len(paths)


def show_path(path):
    """Tell the text of a path."""
    return ".".join([str(number) for number in path]) if path else "."


class Lane:
    """A row of paths with two ends, the owner's and the thieves'."""

    def __init__(self):
        # From the owner's end on.
        self.paths = []

    def lay(self, path):
        """Lay a path at the owner's end."""
        self.paths.insert(0, path)

    def draw(self):
        """Take the path at the owner's end."""
        if not self.paths:
            raise Bare("nothing can be drawn of a bare lane")
        return self.paths.pop(0)

    def rob(self):
        """Take the path at the thieves' end."""
        if not self.paths:
            raise Bare("nothing can be robbed of a bare lane")
        return self.paths.pop()

    def fit(self, path):
        """Put a path, seen from the owner's end, in front of the first one that isn't ahead of it."""
        self.paths.insert(fitting_place(self.paths, path), path)

    def things(self):
        """Tell the paths from the owner's end on."""
        return list(self.paths)

    def __len__(self):
        return len(self.paths)

    def __eq__(self, other):
        return isinstance(other, Lane) and self.paths == other.paths

    def __repr__(self):
        return f"Lane({' '.join([show_path(path) for path in self.paths])})"


def lane_twin(lane):
    """Tell a lane in which the same paths lie."""
    other = Lane()
    other.paths = lane.things()
    return other
