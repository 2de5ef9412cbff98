"""The desk, which keeps books and halls by names and is told rows of words."""

from stealhall.answers import show_book, show_hall, show_happening, show_run
from stealhall.asking import read_asked
from stealhall.errors import Missing, NoRow
from stealhall.hall import Hall
from stealhall.plain import serial
from stealhall.reading import read_book
from stealhall.weaving import weave


def say_line(desk, parts):
    name, rest = parts
    desk.add_line(name, rest)
    return "ok"


def say_text(desk, parts):
    name = parts[0]
    return show_book(desk.book_by(name))


def say_run(desk, parts):
    name, work_name, numbers = parts
    return show_run(serial(desk.book_by(name), work_name, numbers))


def say_open(desk, parts):
    hall_name, name, workers, limit, work_name, numbers = parts
    desk.keep_hall(hall_name, Hall(desk.book_by(name), work_name, numbers, workers=workers, limit=limit))
    return "ok"


def say_turn(desk, parts):
    name, worker, victim = parts
    # The turn is a twin's, so that undo finds the hall as it was.
    hall = desk.hall_by(name).twin()
    answer = show_happening(hall.turn(worker, victim=victim))
    desk.keep_hall(name, hall)
    return answer


def say_rounds(desk, parts):
    name, rounds = parts
    hall = desk.hall_by(name).twin()
    count = weave(hall, [], rounds=rounds)
    desk.keep_hall(name, hall)
    return str(count)


def say_show(desk, parts):
    name = parts[0]
    return show_hall(desk.hall_by(name))


def say_undo(desk, parts):
    desk.go_back()
    return "ok"


ACTIONS = {
    "line": say_line,
    "text": say_text,
    "run": say_run,
    "open": say_open,
    "turn": say_turn,
    "rounds": say_rounds,
    "show": say_show,
    "undo": say_undo,
}


class Desk:
    """Texts of books and halls by their names, and what it takes to undo what was done to them."""

    def __init__(self):
        # The lines of each text.
        self.texts = {}
        self.halls = {}
        # For each line that was added its name, for each hall that was kept its name and the hall before, or None.
        self.changes = []

    def say(self, row):
        """Do what a row tells; tell the answer."""
        word, parts = read_asked(row)
        action = ACTIONS[word]
        return action(self, parts)

    def book_by(self, name):
        """Tell the book that the text of that name tells."""
        if name not in self.texts:
            raise Missing(name)
        return read_book("\n".join(self.texts[name]))

    def hall_by(self, name):
        if name not in self.halls:
            raise Missing(name)
        return self.halls[name]

    def add_line(self, name, line):
        """Add a line to the text of that name, or begin it."""
        self.texts.setdefault(name, []).append(line)
        self.changes.append(("line", name, None))

    def keep_hall(self, name, hall):
        """Keep a hall by that name instead of the one before."""
        self.changes.append(("hall", name, self.halls.get(name)))
        self.halls[name] = hall

    def go_back(self):
        """Undo the last change."""
        if not self.changes:
            raise NoRow("there is nothing to undo")
        what, name, before = self.changes.pop()
        if what == "line":
            self.drop_line(name)
        elif before is None:
            del self.halls[name]
        else:
            self.halls[name] = before

    def drop_line(self, name):
        """Take the last line out of the text of that name, which goes with its only line."""
        self.texts[name].pop()
        if not self.texts[name]:
            del self.texts[name]
