"""Points 3 and 8 to 13 over books of many kinds, held against a run by the rows themselves."""

import collections
import random
import unittest

from stealhall.errors import Spent
from stealhall.forms import Book
from stealhall.plain import serial
from stealhall.web import Web
from tests import model
from tests.books import random_works

BUDGET = 150


def runs(seed, many):
    """Books of many kinds, each with one of its works and numbers for it."""
    chance = random.Random(seed)
    for _ in range(many):
        works = random_works(chance)
        work = works[0] if chance.random() < 0.9 else chance.choice(works)
        args = [chance.choice((0, 1, 1, 2, 2, 3, 5, -3, -7, 10 ** 30 - 1, 1 - 10 ** 30)) for _ in work[2]]
        yield works, work[1], args


class BesideModel(unittest.TestCase):
    def compare_run(self, told, works, name, args):
        run = serial(Book(works), name, list(args), budget=BUDGET)
        self.assertEqual(run.result, told.result)
        self.assertEqual(run.count, len(told.nodes))
        self.assertEqual(run.most, told.most)
        self.assertEqual(run.ends(), sorted(told.results.items()))

    def compare_web(self, told, works, name, args):
        web = Web(Book(works), name, list(args), budget=BUDGET)
        self.assertEqual(web.nodes(), told.nodes)
        self.assertEqual(len(web), len(told.nodes))
        self.assertEqual((web.base(), web.largest()), (told.base, told.most))
        self.assertEqual(web.loose(), told.loose())
        for node in told.nodes:
            self.assertEqual(web.comes_of(node[0], node[1]), told.comes_of(node[0], node[1]))

    def test_runs_and_webs(self):
        seen = collections.Counter()
        for works, name, args in runs(11, 3000):
            try:
                told = model.Model(works, name, args, BUDGET)
            except model.Spent:
                seen["spent"] += 1
                for function in (serial, Web):
                    with self.assertRaises(Spent):
                        function(Book(works), name, args, budget=BUDGET)
                continue
            self.compare_run(told, works, name, args)
            self.compare_web(told, works, name, args)
            seen.update(result for result in told.results.values() if result[0] == "fails")
            seen["future"] += any(model.is_future(result[1]) for result in told.results.values())
            seen[(told.loose() or (None, None))[1]] += len(told.results) > 1
        # So that the comparison says something, each of these must have come about.
        for thing in [("fails", number) for number in (-1, -2, -3, -4)] + ["spent", "future", None, "left", "other"]:
            self.assertGreater(seen[thing], 5, thing)


if __name__ == "__main__":
    unittest.main()
