"""What several tests of halls use: halls of texts, turns told as texts, all that a hall tells, rows of turns."""

from stealhall.errors import BadTurn
from stealhall.hall import Hall
from stealhall.reading import read_book

SLOW = "\nwork slow() room 0\n x = 1\n give x"
WAITER = "\nwork waiter(p) room 0\n wait a p\n give a"


def hall_of(text, *args, name="main", **more):
    return Hall(read_book(text), name, list(args), **more)


def path_of(text):
    return () if text == "." else tuple(int(part) for part in text.split("."))


def happening(text):
    """The tuple that a text such as `1 steal 0.1 0` tells."""
    worker, word, path, more = text.split(" ")
    if more == "-":
        last = None
    else:
        last = path_of(more) if word == "park" else int(more)
    return (int(worker), word, None if path == "-" else path_of(path), last)


def play(test, hall, *texts):
    """Do the turns by which this should happen; `@2` behind it tells the victim, as does the last part of a rest."""
    for text in texts:
        told, _, victim = text.partition(" @")
        wanted = happening(told)
        if wanted[1] == "rest":
            victim = wanted[3]
        else:
            victim = int(victim) if victim else None
        before = hall.log()
        got = hall.turn(wanted[0], victim=victim)
        test.assertEqual(got, wanted, text)
        test.assertEqual(hall.log(), before + [wanted])
        test.assertEqual([type(part) for part in got], [type(part) for part in wanted])


def workers_of(hall):
    many = 0
    while True:
        try:
            hall.hand(many)
        except BadTurn:
            return many
        many += 1


def state(hall):
    """All that a hall tells of itself but whether it is at work and its weavings."""
    many = range(workers_of(hall))
    return {"hands": [hall.hand(worker) for worker in many], "lanes": [hall.lane(worker) for worker in many],
            "parked": hall.parked(), "aside": hall.aside(), "taken": hall.taken(), "greatest": hall.greatest(),
            "first": hall.first(), "done": hall.done(), "outcome": hall.outcome(), "ended": hall.ended(),
            "log": hall.log()}


def whole_state(hall):
    return {**state(hall), "at work": hall.at_work(), "weavings": hall.weavings()}


def random_turn(chance, workers, last=None):
    """A turn of any worker, or, where a last turn is told, mostly of the same one once more."""
    worker = last[0] if last and chance.random() < 0.7 else chance.randrange(workers)
    others = [other for other in range(workers) if other != worker]
    return worker, chance.choice(others) if others and chance.random() < 0.5 else None


def random_turns(chance, workers):
    """Turns without an end, in one of several manners."""
    manner = chance.choice(("rounds", "any", "clinging", "lopsided"))
    turn = None
    while True:
        if manner == "rounds":
            for worker in range(workers):
                yield worker, None
        elif manner == "lopsided":
            turn = random_turn(chance, workers if chance.random() < 0.3 else (workers + 1) // 2)
            yield turn
        else:
            turn = random_turn(chance, workers, turn if manner == "clinging" else None)
            yield turn
