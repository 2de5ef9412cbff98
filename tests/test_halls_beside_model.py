"""Points 3 and 14 to 18 over books, workers, limits and turns of many kinds, held against tests/hall_model.py."""

import collections
import itertools
import random
import unittest

from stealhall.chains import height, levels, longest
from stealhall.forms import Book
from stealhall.hall import Hall
from stealhall.lanes import in_order, is_ahead
from stealhall.plain import serial
from stealhall.web import Web
from tests import model
from tests.books import busy_works
from tests.hall_model import HallModel, plain_key
from tests.halls import random_turns, state
from tests.test_beside_model import BUDGET, runs


def busy_runs(seed, many):
    chance = random.Random(seed)
    for _ in range(many):
        yield busy_works(chance), "f", [chance.choice((1, 2, 2, 3, 4))]


def runs_within(seed, many):
    """Runs that keep to the budget, each with what the model tells of it, those with goes more often than others."""
    chance = random.Random(seed)
    for works, name, args in itertools.chain(runs(seed, many // 2), busy_runs(seed, many // 2)):
        try:
            told = model.Model(works, name, args, BUDGET)
        except model.Spent:
            continue
        if len(told.results) > 1 or chance.random() < 0.1:
            yield works, name, args, told


def limits_for(told):
    return (None, None, 0, told.base, told.base - 1 if told.base else 1, told.most, told.most // 2, 2 * told.most, 10 ** 9)


class HallsBesideModel(unittest.TestCase):
    def check_order(self, hall, workers, limit):
        """What point 3 tells of hands, lanes and what is first."""
        for worker in range(workers):
            hand, lane = hall.hand(worker), hall.lane(worker)
            if hand is None:
                self.assertEqual(lane, [])
            else:
                self.assertEqual([hand] + lane, sorted([hand] + lane, key=plain_key))
        if not hall.done():
            hands = [hall.hand(worker) for worker in range(workers)]
            self.assertIn(hall.first(), hands + (hall.aside() if limit is not None else []))
            self.assertNotIn(hall.first(), [path for path, _ in hall.parked()])

    def follow(self, hall, wanted, workers, limit, turns):
        """Do these turns in a hall and in its model."""
        for count, (worker, victim) in enumerate(turns):
            if hall.done():
                break
            self.assertEqual(hall.turn(worker, victim=victim), wanted.turn(worker, victim))
            self.check_order(hall, workers, limit)
            if count % 7 == 0:
                self.assertEqual(state(hall), wanted.state())
        self.assertEqual(state(hall), wanted.state())

    def check_done(self, hall, told, web, seen):
        self.assertTrue(hall.done())
        self.assertEqual((hall.outcome(), hall.taken()), (told.result, 0))
        self.assertEqual(hall.ended(), sorted(told.results.items()))
        steps = [(path, more) for _, word, path, more in hall.log() if word == "step"]
        self.assertEqual(sorted(steps), sorted(node[:2] for node in told.nodes))
        places = {step: at for at, step in enumerate(steps)}
        for step in steps:
            for source in web.comes_of(*step):
                self.assertLess(places[source], places[step])
        seen.update(entry[1] for entry in hall.log())

    def test_halls(self):
        seen = collections.Counter()
        chance = random.Random(5)
        for works, name, args, told in runs_within(23, 900):
            web = Web(Book(works), name, list(args), budget=BUDGET)
            workers, limit = chance.choice((1, 2, 2, 3, 3, 4, 8)), chance.choice(limits_for(told))
            hall = Hall(Book(works), name, list(args), workers=workers, limit=limit, budget=BUDGET)
            wanted = HallModel(told, workers, limit)
            self.assertEqual(state(hall), wanted.state())
            turns = random_turns(chance, workers)
            self.follow(hall, wanted, workers, limit, itertools.islice(turns, 400))
            twin, before = hall.twin(), state(hall)
            self.follow(hall, wanted, workers, limit, ((at % workers, None) for at in itertools.count()))
            self.check_done(hall, told, web, seen)
            self.assertEqual(state(twin), before)
            self.assertEqual(hall.ended(), serial(Book(works), name, list(args), budget=BUDGET).ends())
        for word in ("step", "park", "aside", "lift", "steal", "rest"):
            self.assertGreater(seen[word], 200, word)

    def test_paths(self):
        chance = random.Random(7)
        for _ in range(500):
            paths = list({tuple(chance.choice((0, 1, 2, 10 ** 29)) for _ in range(chance.randrange(5)))
                          for _ in range(chance.randrange(9))})
            wanted = sorted(paths, key=plain_key)
            self.assertEqual(in_order(paths), wanted)
            for one, other in itertools.product(paths, paths):
                self.assertIs(is_ahead(one, other), wanted.index(one) < wanted.index(other))


class ChainsBesideModel(unittest.TestCase):
    def test_chains(self):
        seen = collections.Counter()
        for works, name, args, told in runs_within(31, 600):
            web = Web(Book(works), name, list(args), budget=BUDGET)
            found, goes = {}, {}
            for node in told.nodes:
                sources = told.comes_of(*node[:2])
                found[node[:2]] = 1 + max([found[source] for source in sources], default=0)
                goes[node[:2]] = (node[4] is not None) + max([goes[source] for source in sources], default=0)
            self.assertEqual(levels(web), [found[node[:2]] for node in told.nodes])
            self.assertEqual(height(web), max(goes.values()))
            chain = longest(web)
            self.assertEqual(len(chain), max(found.values()))
            for ahead, step in zip(chain, chain[1:]):
                self.assertIn(ahead, told.comes_of(*step))
            self.assertIn(chain[0], found)
            seen[height(web)] += 1
        for many in range(5):
            self.assertGreater(seen[many], 5)


if __name__ == "__main__":
    unittest.main()
