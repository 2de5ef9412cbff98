"""The refusals of the package, each with the value that tells what was refused."""


class StealError(ValueError):
    """What most refusals of the package are under."""


class BadText(StealError):
    """A text that tells no book; row is the number, from 1 on, of the line that shows it."""

    def __init__(self, row):
        super().__init__(f"line {row} of the text can not be read")
        self.row = row


class BadTree(StealError):
    """A thing that is no work, or no list of works that make a book."""


class BadArgs(StealError):
    """A thing that is no list of the numbers that a work is handed."""


class BadHall(StealError):
    """Workers or a limit that no hall has, or a hall that is at work."""


class BadTurn(StealError):
    """A turn that is none; at is its place in the row of turns, from 0 on."""

    def __init__(self, at):
        super().__init__(f"there is no such turn at place {at}")
        self.at = at


class NoRow(StealError):
    """A row that the desk doesn't know."""


class Missing(LookupError):
    """A work, a text or a hall that isn't there; name is what it was asked by."""

    def __init__(self, name):
        super().__init__(f"nothing is there by the name {name}")
        self.name = name


class Bare(LookupError):
    """A lane out of which nothing can be taken."""


class Spent(RuntimeError):
    """A run of more steps than its budget; steps is that budget."""

    def __init__(self, steps):
        super().__init__(f"the run takes more than {steps} steps")
        self.steps = steps


class Broken(ArithmeticError):
    """A result that gives nothing; number is what it fails with."""

    def __init__(self, number):
        super().__init__(f"the task fails with {number}")
        self.number = number
