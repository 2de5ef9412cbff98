"""How a desk writes what it answers."""

from stealhall.lanes import show_path

NOTHING = "-"


def show_book(book):
    """Tell a book's text in one row."""
    return str(book).replace("\n", " / ") if len(book) > 0 else NOTHING


def show_result(result):
    """Tell a task's result."""
    word, worth = result
    if isinstance(worth, tuple):
        return f"{word} {worth[0]} {show_path(worth[1])}"
    return f"{word} {worth}"


def show_run(run):
    """Tell the result of a plain run, its steps and its most room."""
    return f"{show_result(run.result)} {run.count} {run.most}"


def show_happening(happening):
    """Tell what happened by a turn."""
    return " ".join([show_thing(thing) for thing in happening])


def show_thing(thing):
    """Tell a path, a number, a word or None."""
    if thing is None:
        return NOTHING
    return show_path(thing) if isinstance(thing, tuple) else str(thing)


def show_hall(hall):
    """Tell the hands of a hall, or its result where it is done."""
    if hall.done():
        return f"done {show_result(hall.outcome())}"
    return " ".join([show_thing(hall.hand(worker)) for worker in range(hall.workers)])
