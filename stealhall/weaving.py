"""Weavings: rows of turns and rounds that a hall does in one go."""

from stealhall.errors import BadHall, BadTurn
from stealhall.forms import is_tuple_of


def weave(hall, turns, *, rounds=0, watch=None):
    """Do a row of turns and behind them so many rounds; tell how many turns were done."""
    check_not_at_work(hall)
    weaving = Weaving(hall, watch)
    hall.working = True
    try:
        weaving.do_turns(list(turns))
        weaving.do_rounds(rounds)
    finally:
        hall.working = False
        hall.woven.append(weaving.count)
    return weaving.count


def run_out(hall):
    """Do rounds until the hall is done; tell how many."""
    check_not_at_work(hall)
    weaving = Weaving(hall, None)
    rounds = 0
    while not hall.done():
        weaving.do_round()
        rounds += 1
    return rounds


def check_not_at_work(hall):
    """Refuse a hall that is at work."""
    if hall.at_work():
        raise BadHall("the hall is at work")


class Weaving:
    """Turns of a hall that are counted and, where there is a watch, told to it."""

    def __init__(self, hall, watch):
        self.hall = hall
        self.watch = watch
        self.count = 0

    def do_turns(self, turns):
        """Do a row of turns."""
        for at, turn in enumerate(turns):
            self.count_turn(listed_turn(self.hall, turn, at))

    def do_rounds(self, rounds):
        """Do so many rounds, or fewer where the hall is done ahead of one."""
        while rounds > 0 and not self.hall.done():
            self.do_round()
            rounds -= 1

    def do_round(self):
        """Do a turn of each worker."""
        for worker in range(self.hall.workers):
            self.count_turn(self.hall.turn(worker))

    def count_turn(self, happening):
        """Count a turn, and tell the watch what happened by it."""
        self.count += 1
        watch = self.watch
        if watch is not None:
            watch(happening)


def listed_turn(hall, turn, at):
    """Do the turn at that place of a row of turns; tell what happens."""
    if not is_tuple_of(turn, 2):
        raise BadTurn(at)
    try:
        return hall.turn(turn[0], victim=turn[1])
    except BadTurn:
        raise BadTurn(at) from None
