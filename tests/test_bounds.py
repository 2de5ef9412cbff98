"""Point 20: the bounds of steals, room and rounds."""

import math
import unittest

from stealhall.bounds import most_room, most_rounds, most_steals
from tests.halls import SLOW
from tests.samples import GIVER, main
from tests.test_web import web_of

KEPT = main("go a giver(1)", "wait a a", room=2) + GIVER.replace("room 0", "room 5")
LEFT = main("go a giver(1)", room=2) + GIVER.replace("room 0", "room 5")
OTHER = main("go a slow()", "call b waiter(a)", "wait a a", room=3) + SLOW + "\nwork waiter(p) room 4\n wait a p"


class Steals(unittest.TestCase):
    def test_ways_to_choose(self):
        for workers in range(1, 9):
            for height in (0, 1, 2, 3, 7, 8, 30, 2000):
                wanted = sum(math.comb(height, many) for many in range(1, workers))
                self.assertEqual(most_steals(workers, height=height), wanted, (workers, height))

    def test_written_out(self):
        self.assertEqual([most_steals(workers, height=0) for workers in range(1, 9)], [0] * 8)
        self.assertEqual([most_steals(workers, height=1) for workers in range(1, 9)], [0] + [1] * 7)
        self.assertEqual([most_steals(workers, height=3) for workers in range(1, 9)], [0, 3, 6, 7, 7, 7, 7, 7])
        self.assertEqual([most_steals(workers, height=30) for workers in range(1, 5)], [0, 30, 465, 4525])
        self.assertEqual(most_steals(2, height=2000), 2000)
        self.assertEqual(most_steals(3, height=2000), 2001000)

    def test_no_height_told(self):
        for workers in range(1, 9):
            self.assertEqual(most_steals(workers), 0)

    def test_kind(self):
        self.assertIs(type(most_steals(5, height=9)), int)


class Room(unittest.TestCase):
    def test_with_a_limit(self):
        for text, most in ((KEPT, 7), (LEFT, 7), (OTHER, 7), (main(), 0)):
            for workers in (1, 2, 8):
                for limit in (0, 1, 12, 10 ** 9):
                    self.assertEqual(most_room(web_of(text), workers, limit=limit), limit + most)

    def test_kept_within_without_a_limit(self):
        for workers in range(1, 9):
            self.assertEqual(most_room(web_of(KEPT), workers), 7 * workers)
            self.assertEqual(most_room(web_of(KEPT), workers, limit=None), 7 * workers)
            self.assertEqual(most_room(web_of(main(room=3)), workers), 3 * workers)
            self.assertEqual(most_room(web_of(main()), workers), 0)

    def test_not_kept_within_without_a_limit(self):
        for text in (LEFT, OTHER):
            for workers in (1, 2, 8):
                self.assertIsNone(most_room(web_of(text), workers))
                self.assertIsNone(most_room(web_of(text), workers, limit=None))


class Rounds(unittest.TestCase):
    def test_without_a_limit(self):
        for text, steps in ((main(), 1), (KEPT, 4), (LEFT, 3)):
            for workers in (1, 2, 8):
                self.assertEqual(most_rounds(web_of(text), workers), steps)
                self.assertEqual(most_rounds(web_of(text), workers, limit=None), steps)

    def test_with_a_limit(self):
        for text, steps in ((main(), 1), (KEPT, 4), (LEFT, 3)):
            for workers in range(1, 9):
                for limit in (0, 5, 10 ** 9):
                    self.assertEqual(most_rounds(web_of(text), workers, limit=limit), steps * (workers + 2) + 2)


if __name__ == "__main__":
    unittest.main()
