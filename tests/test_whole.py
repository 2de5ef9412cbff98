"""Point 3, and the bounds of point 20, over made books, workers, limits and rows of turns of many kinds."""

import collections
import itertools
import random
import unittest

from stealhall.bounds import most_room, most_rounds, most_steals
from stealhall.chains import height, levels, longest
from stealhall.errors import Spent
from stealhall.forms import Book
from stealhall.hall import Hall
from stealhall.looker import chain_holds, levels_hold, log_holds, loose_holds
from stealhall.plain import BUDGET, serial
from stealhall.reading import read_book
from stealhall.weaving import run_out, weave
from stealhall.web import Web
from tests.books import busy_works
from tests.halls import random_turns
from tests.test_beside_model import runs


def made_runs(seed, many):
    """Runs of made books that keep to the budget, each as a book, a name and numbers."""
    chance = random.Random(seed)
    busy = ((busy_works(chance, kept=at % 2 == 0), "f", [chance.choice((1, 2, 3, 4, 5))]) for at in range(many))
    for works, name, args in itertools.chain(busy, runs(seed, many // 2)):
        try:
            serial(Book(works), name, args)
        except Spent:
            continue
        yield Book(works), name, args


class Whole(unittest.TestCase):
    def setUp(self):
        self.seen = collections.Counter()

    def count(self, hall, word):
        return sum(entry[1] == word for entry in hall.log())

    def check_steps(self, hall, web):
        """Each step just once, behind all that it comes of."""
        steps = [(path, more) for _, word, path, more in hall.log() if word == "step"]
        places = {step: at for at, step in enumerate(steps)}
        self.assertEqual((len(places), sorted(steps)), (len(steps), sorted(node[:2] for node in web.nodes())))
        for step in steps:
            self.assertTrue(all(places[source] < places[step] for source in web.comes_of(*step)))

    def check_bounds(self, hall, web, workers, limit):
        bound = most_room(web, workers, limit=limit)
        if bound is not None:
            self.assertLessEqual(hall.greatest(), bound)
        self.seen["unbounded"] += bound is None
        steals = self.count(hall, "steal")
        goes = sum(node[4] is not None for node in web.nodes())
        self.assertLessEqual(steals, goes + self.count(hall, "park"))
        if limit is None and web.loose() is None:
            self.assertLessEqual(steals, most_steals(workers, height=height(web)))
            self.seen["bounded steals"] += steals > 0

    def check_papers(self, hall, web, workers, limit):
        log = hall.log()
        self.assertIs(log_holds(web, workers, limit, log), True)
        self.assertIs(log_holds(web, workers, limit, log[:len(log) // 2]), True)
        self.assertIs(levels_hold(web, levels(web)), True)
        self.assertIs(chain_holds(web, longest(web)), True)
        self.assertIs(web.loose() is None or loose_holds(web, web.loose()), True)

    def check_done(self, hall, run, web, workers, limit):
        self.assertEqual((hall.done(), hall.ended(), hall.outcome()), (True, run.ends(), run.result))
        self.assertEqual((hall.taken(), hall.first(), hall.parked(), hall.aside()), (0, None, [], []))
        self.check_steps(hall, web)
        self.check_bounds(hall, web, workers, limit)
        self.check_papers(hall, web, workers, limit)
        self.seen.update(entry[1] for entry in hall.log())

    def run_by_rounds(self, hall, web, workers, limit):
        """Round by round, to see that none goes by without a step where there is no limit."""
        rounds = 0
        while not hall.done():
            before = self.count(hall, "step")
            weave(hall, [], rounds=1)
            rounds += 1
            if limit is None:
                self.assertGreater(self.count(hall, "step"), before)
        self.assertLessEqual(rounds, most_rounds(web, workers, limit=limit))
        if limit is None:
            turns = len(web) + self.count(hall, "park") + self.count(hall, "steal")
            self.assertLessEqual(rounds, turns // workers + 2 * max(levels(web)) + 1)
        return rounds

    def limits(self, run, base):
        return (None, None, 0, 1, base, run.most // 2, run.most, 2 * run.most, 10 ** 9)

    def test_rounds(self):
        chance = random.Random(13)
        for book, name, args in made_runs(61, 260):
            run, web = serial(book, name, args), Web(book, name, args)
            workers, limit = chance.choice((1, 2, 3, 5, 8)), chance.choice(self.limits(run, web.base()))
            hall = Hall(book, name, args, workers=workers, limit=limit)
            other = hall.twin()
            rounds = self.run_by_rounds(hall, web, workers, limit)
            self.assertEqual((run_out(other), other.log()), (rounds, hall.log()))
            self.check_done(hall, run, web, workers, limit)
        for word in ("step", "park", "aside", "lift", "steal", "rest", "unbounded", "bounded steals"):
            self.assertGreater(self.seen[word], 20, word)

    def test_any_turns(self):
        chance = random.Random(17)
        for book, name, args in made_runs(67, 400):
            run, web = serial(book, name, args), Web(book, name, args)
            workers, limit = chance.choice((1, 2, 3, 4, 8)), chance.choice(self.limits(run, web.base()))
            hall = Hall(book, name, args, workers=workers, limit=limit)
            turns = random_turns(chance, workers)
            for _ in range(40):
                weave(hall, list(itertools.islice(turns, 20)))
                if hall.done():
                    break
            run_out(hall)
            self.check_done(hall, run, web, workers, limit)
        for word in ("step", "park", "aside", "lift", "steal", "rest", "unbounded", "bounded steals"):
            self.assertGreater(self.seen[word], 20, word)

    def test_books_read_and_written(self):
        for book, name, args in made_runs(71, 200):
            again = read_book(str(book))
            self.assertEqual((again, str(again)), (book, str(book)))
            self.assertEqual(serial(again, name, args).ends(), serial(book, name, args).ends())

    def test_every_row_of_turns_of_a_small_run(self):
        book = read_book("work f() room 1\n go a g()\n go b h(a)\n wait b b\nwork g() room 2\n x = 1\nwork h(p) room 0\n wait a p")
        run, web = serial(book, "f", []), Web(book, "f", [])
        for limit in (None, 0, 3):
            first = Hall(book, "f", [], limit=limit)
            halls, known, done = [first], set(), 0
            while halls:
                hall = halls.pop()
                if hall.done():
                    self.check_done(hall, run, web, 2, limit)
                    done += 1
                    continue
                for worker, victim in itertools.product((0, 1), (None, "other")):
                    other = hall.twin()
                    other.turn(worker, victim=None if victim is None else 1 - worker)
                    # What a hall does from there on hangs on this alone; its log is not looked at twice.
                    key = repr((other.hand(0), other.hand(1), other.lane(0), other.lane(1), other.parked(), other.aside(),
                                sorted(entry[2:] for entry in other.log() if entry[1] == "step")))
                    if key not in known:
                        known.add(key)
                        halls.append(other)
            self.assertGreater(done, 0)
            self.assertGreater(len(known), 20)

    def test_the_budget_of_the_largest_run(self):
        rows = "\n".join(["go a f(n - 1)"] * 6 + ["wait a a"])
        book = read_book(f"work f(n) room 1\n if n\n{rows}\n end")
        self.assertRaises(Spent, Web, book, "f", [4])
        web = Web(book, "f", [3], budget=2000)
        for workers, limit in ((1, None), (8, None), (8, 0), (3, 5)):
            hall = Hall(book, "f", [3], workers=workers, limit=limit, budget=2000)
            self.assertLessEqual(run_out(hall), most_rounds(web, workers, limit=limit))
            self.assertTrue(log_holds(web, workers, limit, hall.log()))
        self.assertGreater(len(web), BUDGET)


if __name__ == "__main__":
    unittest.main()
