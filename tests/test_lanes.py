"""Points 2 and 15: plain order of paths, and lanes."""

import itertools
import unittest

from stealhall.errors import Bare, StealError
from stealhall.lanes import Lane, in_order, is_ahead
from tests.samples import wrong_things

GREAT = 10 ** 30 - 1

# In plain order.
PATHS = [(0, 0, 0), (0, 0, 1), (0, 0), (0, 1), (0, 2, 5), (0, 2), (0, 10), (0,), (1,), (2, 0), (2,), (10, 0), (10,),
         (GREAT - 1,), (GREAT, 0, GREAT - 1), (GREAT, 0, GREAT), (GREAT, 0), (GREAT,), ()]


def lane_of(*paths):
    """A lane with these paths from the owner's end on."""
    lane = Lane()
    for path in paths[::-1]:
        lane.lay(path)
    return lane


class Order(unittest.TestCase):
    def test_every_two(self):
        for one, other in itertools.product(range(len(PATHS)), repeat=2):
            self.assertIs(is_ahead(PATHS[one], PATHS[other]), one < other, (PATHS[one], PATHS[other]))

    def test_what_goes_on_from_another(self):
        self.assertTrue(is_ahead((0,), ()))
        self.assertFalse(is_ahead((), (0,)))
        self.assertTrue(is_ahead((5, 3, 9), (5,)))
        self.assertFalse(is_ahead((5,), (5, 3, 9)))

    def test_at_the_first_and_at_a_later_place(self):
        self.assertTrue(is_ahead((1, 9), (2,)))
        self.assertTrue(is_ahead((1,), (2, 0)))
        self.assertTrue(is_ahead((1, 1, 0), (1, 1, 1, 0)))
        self.assertFalse(is_ahead((1, 10), (1, 9)))

    def test_one_and_the_same(self):
        for path in PATHS:
            self.assertIs(is_ahead(path, tuple(list(path))), False)

    def test_in_order(self):
        for paths in (PATHS, PATHS[::-1], sorted(PATHS), PATHS[::2] + PATHS[1::2], PATHS[7:] + PATHS[:7]):
            before = list(paths)
            self.assertEqual(in_order(paths), PATHS)
            self.assertEqual(paths, before)
        for paths in itertools.permutations([(0, 1), (0,), (1,), ()]):
            self.assertEqual(in_order(list(paths)), [(0, 1), (0,), (1,), ()])
        self.assertEqual(in_order([]), [])
        self.assertEqual(in_order([()]), [()])

    def test_the_told_list_is_new(self):
        paths = [(0,), ()]
        in_order(paths).append((1,))
        self.assertEqual(paths, [(0,), ()])
        self.assertEqual(in_order(paths), [(0,), ()])


class Lanes(unittest.TestCase):
    def test_lay_draw_and_rob_one(self):
        lane = Lane()
        self.assertIsNone(lane.lay((0,)))
        self.assertEqual(lane.things(), [(0,)])
        self.assertEqual(lane.draw(), (0,))
        self.assertEqual(lane.things(), [])
        lane.lay(())
        self.assertEqual(lane.rob(), ())
        self.assertEqual(lane.things(), [])

    def test_lay_draw_and_rob_several(self):
        lane = lane_of((0, 0), (0,), (1,), ())
        self.assertEqual(lane.things(), [(0, 0), (0,), (1,), ()])
        self.assertEqual(lane.draw(), (0, 0))
        self.assertEqual(lane.rob(), ())
        self.assertEqual(lane.things(), [(0,), (1,)])
        lane.lay((5,))
        self.assertEqual((lane.rob(), lane.draw(), lane.draw()), ((1,), (5,), (0,)))
        self.assertEqual(len(lane), 0)

    def test_fit(self):
        lying = [(0, 0), (1,), (3,)]
        for path, wanted in (((0, 0, 4), [(0, 0, 4), (0, 0), (1,), (3,)]), ((0,), [(0, 0), (0,), (1,), (3,)]),
                             ((2, 7), [(0, 0), (1,), (2, 7), (3,)]), ((3, 0), [(0, 0), (1,), (3, 0), (3,)]),
                             ((4,), [(0, 0), (1,), (3,), (4,)]), ((), [(0, 0), (1,), (3,), ()])):
            lane = lane_of(*lying)
            self.assertIsNone(lane.fit(path))
            self.assertEqual(lane.things(), wanted)

    def test_fit_into_a_bare_lane_and_beside_one(self):
        lane = Lane()
        lane.fit((1,))
        self.assertEqual(lane.things(), [(1,)])
        lane.fit(())
        lane.fit((0,))
        self.assertEqual(lane.things(), [(0,), (1,), ()])

    def test_fit_several_in_any_order(self):
        for paths in itertools.permutations([(0, 1), (0,), (1,), ()]):
            lane = Lane()
            for path in paths:
                lane.fit(path)
            self.assertEqual(lane.things(), [(0, 1), (0,), (1,), ()])

    def test_fit_where_the_lane_is_not_in_plain_order(self):
        lane = lane_of((5,), (1,), (7,))
        lane.fit((3,))
        self.assertEqual(lane.things(), [(3,), (5,), (1,), (7,)])
        lane = lane_of((1,), (5,), (2,))
        lane.fit((3,))
        self.assertEqual(lane.things(), [(1,), (3,), (5,), (2,)])

    def test_fit_beside_the_same_path(self):
        lane = lane_of((0,), (1,))
        lane.fit((1,))
        self.assertEqual(lane.things(), [(0,), (1,), (1,)])

    def test_bare(self):
        lane = Lane()
        for take in (lane.draw, lane.rob):
            with self.assertRaises(Bare) as caught:
                take()
            self.assertIsInstance(caught.exception, LookupError)
            self.assertNotIsInstance(caught.exception, StealError)
            self.assertEqual((len(lane), lane.things()), (0, []))
        lane.lay((1,))
        lane.draw()
        self.assertRaises(Bare, lane.rob)
        self.assertEqual(lane, Lane())

    def test_told_lists_are_new(self):
        lane = lane_of((0,), ())
        lane.things().clear()
        told = lane.things()
        lane.draw()
        self.assertEqual(told, [(0,), ()])
        self.assertEqual(lane.things(), [()])

    def test_two_lanes_are_apart(self):
        one, other = Lane(), Lane()
        one.lay(())
        self.assertEqual((len(one), len(other)), (1, 0))


class LaneAsAValue(unittest.TestCase):
    def test_equal(self):
        self.assertTrue(Lane() == Lane())
        self.assertFalse(Lane() != Lane())
        laid, fitted = lane_of((0,), ()), Lane()
        fitted.fit(())
        fitted.fit((0,))
        self.assertTrue(laid == fitted)
        self.assertFalse(laid != fitted)

    def test_unlike(self):
        lanes = [lane_of(), lane_of(()), lane_of((0,)), lane_of((0,), ()), lane_of((), (0,)), lane_of((), ())]
        for one, other in itertools.permutations(lanes, 2):
            self.assertTrue(one != other)
            self.assertFalse(one == other)

    def test_in_a_list(self):
        lanes = [lane_of((0,)), lane_of(()), lane_of((0,))]
        self.assertIn(lane_of(()), lanes)
        self.assertNotIn(lane_of((1,)), lanes)
        self.assertEqual(lanes.index(lane_of(())), 1)
        self.assertEqual(lanes.count(lane_of((0,))), 2)
        self.assertEqual(lanes, [lane_of((0,)), lane_of(()), lane_of((0,))])

    def test_beside_things_that_are_none(self):
        for lane, same in ((lane_of(), []), (lane_of(()), [()]), (lane_of((0,), ()), [(0,), ()])):
            for thing in [same, tuple(same), repr(lane), None, 0, True, object()] + wrong_things():
                self.assertFalse(lane == thing)
                self.assertFalse(thing == lane)
                self.assertTrue(lane != thing)
                self.assertTrue(thing != lane)

    def test_len_and_truth(self):
        self.assertFalse(Lane())
        for many in (1, 2, 50):
            lane = lane_of(*[(number,) for number in range(many)])
            self.assertEqual(len(lane), many)
            self.assertTrue(lane)

    def test_repr(self):
        self.assertEqual(repr(Lane()), "Lane()")
        self.assertEqual(repr(lane_of((0, 1), ())), "Lane(0.1 .)")
        self.assertEqual(repr(lane_of(())), "Lane(.)")
        self.assertEqual(repr(lane_of((12,), (3, 4, 5), (0,))), "Lane(12 3.4.5 0)")


if __name__ == "__main__":
    unittest.main()
