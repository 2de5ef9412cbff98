"""Points 2, 17 and 19: weavings, rounds, watches, halls at work, and running out."""

import itertools
import unittest

from stealhall.errors import BadHall, BadTurn
from stealhall.hall import Hall
from stealhall.plain import serial
from stealhall.reading import read_book
from stealhall.weaving import run_out, weave
from tests.halls import SLOW, hall_of, happening, whole_state
from tests.samples import GIVER, main, wrong_things

PAIR = main("go a giver(1)", "go b giver(2)", "wait a a", "wait b b", "give a + b", room=2) + GIVER
LONG = main("go a slow()", "go b slow()", "x = 1", "x = 2", "wait a a", "wait b b", "give a + b", room=1) + SLOW
NO_TURNS = [(0,), (0, None, None), (), [0, None], [], 0, None, True, "0", "0 1", (True, None), (False, None), (None, None),
            (3, None), (-1, None), (0, 0), (1, 1), (0, 3), (0, -1), (0, True), (1, False), ("0", None), (0, "1"),
            (0, (1,)), ([0], None), (0, [1]), ((0, None),)]
NO_TURNS += [thing for thing in wrong_things() if thing not in ((0, None), (0, 1))]


class Oops(Exception):
    pass


class WeavingTest(unittest.TestCase):
    def told(self, hall, *texts):
        self.assertEqual(hall.log(), [happening(text) for text in texts])


class Turns(WeavingTest):
    def test_none(self):
        hall = hall_of(PAIR)
        self.assertEqual(weave(hall, []), 0)
        self.assertEqual((hall.log(), hall.weavings(), hall.at_work()), ([], [0], False))

    def test_victims_told_and_not(self):
        hall = hall_of(PAIR, workers=3)
        self.assertEqual(weave(hall, [(1, 2), (0, None), (1, 2), (1, None), (2, 0), (1, 0), (0, 2)]), 7)
        self.told(hall, "1 rest - 2", "0 step . 0", "1 rest - 2", "1 steal . 0", "2 rest - 0", "1 step . 1", "0 step 0 0")
        self.assertEqual((hall.weavings(), hall.at_work()), ([7], False))

    def test_as_turns_one_by_one(self):
        turns = [(0, None), (1, 0), (2, None), (0, 1), (1, None), (2, 1), (0, None), (1, None)] * 3
        woven, turned = hall_of(LONG, workers=3), hall_of(LONG, workers=3)
        self.assertEqual(weave(woven, turns), len(turns))
        for worker, victim in turns:
            turned.turn(worker, victim=victim)
        self.assertEqual({**whole_state(woven), "weavings": []}, whole_state(turned))

    def test_turns_of_a_hall_that_is_done(self):
        hall = hall_of(main())
        self.assertEqual(weave(hall, [(0, None), (0, None), (1, 0), (1, None)]), 4)
        self.told(hall, "0 step . 0", "0 rest - -", "1 rest - 0", "1 rest - -")
        self.assertEqual(weave(hall, [(1, None)]), 1)
        self.assertEqual(hall.weavings(), [4, 1])

    def test_what_is_handed_in_stays(self):
        hall, turns = hall_of(PAIR), [(0, None), (1, None)]
        weave(hall, turns, rounds=1)
        self.assertEqual(turns, [(0, None), (1, None)])
        turns.clear()
        self.assertEqual(len(hall.log()), 4)

    def test_told_weavings_are_the_askers_own(self):
        hall = hall_of(PAIR)
        weave(hall, [(0, None)])
        told = hall.weavings()
        told.append(9)
        weave(hall, [])
        self.assertEqual((told, hall.weavings()), ([1, 9], [1, 0]))


class Rounds(WeavingTest):
    def test_none(self):
        hall = hall_of(PAIR)
        self.assertEqual(weave(hall, [(0, None)], rounds=0), 1)
        self.told(hall, "0 step . 0")

    def test_one(self):
        hall = hall_of(PAIR, workers=3)
        self.assertEqual(weave(hall, [], rounds=1), 3)
        self.told(hall, "0 step . 0", "1 steal . 0", "2 rest - -")

    def test_behind_turns(self):
        hall = hall_of(PAIR, workers=2)
        self.assertEqual(weave(hall, [(1, 0), (0, None)], rounds=2), 6)
        self.told(hall, "1 rest - 0", "0 step . 0", "0 step 0 0", "1 rest - -", "0 step . 1", "1 steal . 0")
        self.assertEqual(hall.weavings(), [6])

    def test_many(self):
        for workers in range(1, 9):
            hall, turned = hall_of(LONG, workers=workers), hall_of(LONG, workers=workers)
            count = weave(hall, [], rounds=9999)
            rounds = 0
            while not turned.done():
                rounds += 1
                for worker in range(workers):
                    turned.turn(worker)
            self.assertEqual((count, hall.log()), (rounds * workers, turned.log()))
            self.assertEqual((hall.done(), hall.weavings()), (True, [count]))

    def test_a_hall_done_ahead_of_a_round(self):
        hall = hall_of(main())
        self.assertEqual(weave(hall, [(0, None)], rounds=5), 1)
        self.assertEqual(weave(hall, [], rounds=9999), 0)
        self.assertEqual(weave(hall, [(1, None)], rounds=3), 1)
        self.assertEqual(hall.weavings(), [1, 0, 1])

    def test_a_hall_done_amid_a_round(self):
        hall = hall_of(main(), workers=4)
        self.assertEqual(weave(hall, [], rounds=5), 4)
        self.told(hall, "0 step . 0", "1 rest - -", "2 rest - -", "3 rest - -")

    def test_a_hall_done_by_the_last_of_a_round(self):
        hall = hall_of(main("x = 1"), workers=1)
        self.assertEqual(weave(hall, [], rounds=2), 2)
        self.assertTrue(hall.done())


class WrongTurns(WeavingTest):
    def refuses(self, at, turns, **more):
        hall = hall_of(PAIR, workers=3)
        with self.assertRaises(BadTurn) as caught:
            weave(hall, turns, **more)
        self.assertEqual(caught.exception.at, at)
        wanted = hall_of(PAIR, workers=3)
        for worker, victim in turns[:at]:
            wanted.turn(worker, victim=victim)
        self.assertEqual(whole_state(hall), {**whole_state(wanted), "weavings": [at]})
        return hall

    def test_at_the_first_a_later_and_the_last_place(self):
        good = [(0, None), (1, None), (1, 2), (2, 1)]
        for thing in NO_TURNS:
            self.refuses(0, [thing])
            self.refuses(0, [thing] + good)
            self.refuses(2, good[:2] + [thing] + good[2:])
            self.refuses(4, good + [thing])

    def test_the_first_of_several(self):
        self.refuses(1, [(0, None), (0, 0), (5, None), "x"])

    def test_no_rounds_behind_it(self):
        self.refuses(1, [(0, None), (0, 0)], rounds=3)

    def test_a_weaving_behind_it(self):
        hall = self.refuses(2, [(0, None), (0, None), (0, 0)])
        self.assertEqual(weave(hall, [(0, None)]), 1)
        self.assertEqual(hall.weavings(), [2, 1])

    def test_a_watch_hears_of_the_turns_ahead(self):
        heard = []
        hall = self.refuses(1, [(0, None), (7, None), (0, None)], watch=heard.append)
        self.assertEqual(heard, hall.log())
        self.assertEqual(len(heard), 1)


class Watches(WeavingTest):
    def test_what_it_is_called_with(self):
        hall, heard = hall_of(PAIR, workers=2), []
        count = weave(hall, [(0, None), (1, 0), (1, None)], rounds=9, watch=heard.append)
        self.assertEqual((heard, len(heard)), (hall.log(), count))
        self.assertTrue(hall.done())

    def test_behind_each_turn(self):
        hall, logs = hall_of(PAIR), []
        weave(hall, [(0, None), (0, None)], rounds=1, watch=lambda happened: logs.append(hall.log()))
        self.assertEqual(logs, [hall.log()[:many] for many in (1, 2, 3, 4)])

    def test_none(self):
        hall = hall_of(PAIR)
        self.assertEqual(weave(hall, [(0, None)], watch=None), 1)

    def test_at_work(self):
        hall, seen = hall_of(PAIR), []
        weave(hall, [(0, None)], rounds=1, watch=lambda happened: seen.append((hall.at_work(), hall.weavings())))
        self.assertEqual(seen, [(True, [])] * 3)
        self.assertEqual((hall.at_work(), hall.weavings()), (False, [3]))
        weave(hall, [(0, None)], watch=lambda happened: seen.append((hall.at_work(), hall.weavings())))
        self.assertEqual(seen[3:], [(True, [3])])

    def raises_behind(self, many, error):
        hall = hall_of(PAIR)

        def watch(happened):
            if len(hall.log()) == many:
                raise error

        with self.assertRaises(type(error)) as caught:
            weave(hall, [(0, None), (0, None), (1, None)], rounds=2, watch=watch)
        self.assertIs(caught.exception, error)
        self.assertEqual((len(hall.log()), hall.weavings(), hall.at_work()), (many, [many], False))
        wanted = hall_of(PAIR)
        for worker in (0, 0, 1, 0, 1, 0, 1)[:many]:
            wanted.turn(worker)
        self.assertEqual(whole_state(hall), {**whole_state(wanted), "weavings": [many]})
        self.assertEqual(weave(hall, [(0, None)]), 1)
        self.assertEqual(hall.weavings(), [many, 1])

    def test_a_watch_that_raises(self):
        for many in range(1, 8):
            for error in (Oops("x"), ValueError("y"), BadTurn(40), BadHall("z"), KeyError(1)):
                self.raises_behind(many, error)

    def refused_within(self, function):
        """A watch that weaves its own hall is refused and changes nothing."""
        hall, states = hall_of(PAIR, workers=3), []

        def watch(happened):
            before = whole_state(hall)
            self.assertRaises(BadHall, function, hall)
            self.assertEqual(whole_state(hall), before)
            states.append(before)

        self.assertEqual(weave(hall, [(0, None), (1, None)], rounds=1, watch=watch), 5)
        self.assertEqual((len(states), hall.weavings(), hall.at_work()), (5, [5], False))
        other = hall_of(PAIR, workers=3)
        weave(other, [(0, None), (1, None)], rounds=1)
        self.assertEqual(whole_state(hall), whole_state(other))

    def test_a_watch_that_weaves_the_same_hall(self):
        self.refused_within(lambda hall: weave(hall, []))
        self.refused_within(lambda hall: weave(hall, [(0, None)], rounds=2))
        self.refused_within(run_out)

    def test_a_hall_at_work_goes_ahead_of_a_wrong_turn(self):
        self.refused_within(lambda hall: weave(hall, ["no turn", (9, 9)]))

    def test_what_a_watch_is_refused_goes_through(self):
        for function in (run_out, lambda hall: weave(hall, [(0, None)])):
            hall = hall_of(PAIR)
            self.assertRaises(BadHall, weave, hall, [(0, None), (0, None)], watch=lambda happened: function(hall))
            self.assertEqual((len(hall.log()), hall.weavings(), hall.at_work()), (1, [1], False))

    def test_a_watch_that_weaves_another_hall(self):
        hall, other = hall_of(PAIR), hall_of(LONG)
        weave(hall, [(0, None)] * 3, watch=lambda happened: weave(other, [(0, None), (1, None)]))
        self.assertEqual((hall.weavings(), other.weavings()), ([3], [2, 2, 2]))
        self.assertEqual((hall.at_work(), other.at_work()), (False, False))
        weave(hall, [(0, None)], watch=lambda happened: run_out(other))
        self.assertEqual((other.done(), hall.weavings(), other.weavings()), (True, [3, 1], [2, 2, 2]))

    def test_a_twin_taken_by_a_watch(self):
        hall, twins = hall_of(PAIR), []

        def watch(happened):
            twins.append(hall.twin())
            self.assertEqual((twins[-1].at_work(), twins[-1].weavings()), (False, [0]))
            self.assertEqual(twins[-1].log(), hall.log())
            run_out(twins[-1])
            weave(twins[-1], [(0, None)])

        weave(hall, [])
        weave(hall, [(0, None)] * 3, watch=watch)
        self.assertEqual((hall.weavings(), len(hall.log()), hall.at_work()), ([0, 3], 3, False))
        self.assertEqual([twin.weavings() for twin in twins], [[0, 1]] * 3)

    def test_a_weaving_of_a_twin(self):
        hall = hall_of(LONG)
        weave(hall, [(0, None), (1, None)])
        twin = hall.twin()
        weave(twin, [(0, None)], rounds=2)
        self.assertEqual((hall.weavings(), twin.weavings()), ([2], [2, 5]))
        self.assertEqual((len(hall.log()), len(twin.log())), (2, 7))
        weave(hall, [(0, None)], rounds=2)
        self.assertEqual(whole_state(hall), whole_state(twin))


class RunOut(WeavingTest):
    def test_a_new_hall(self):
        run = serial(read_book(LONG), "main", [])
        for workers, limit in itertools.product(range(1, 9), (None, 0, 1, 2, 50)):
            hall = hall_of(LONG, workers=workers, limit=limit)
            rounds = run_out(hall)
            self.assertEqual((hall.done(), len(hall.log())), (True, rounds * workers))
            self.assertEqual((hall.ended(), hall.weavings(), hall.at_work()), (run.ends(), [], False))
            other = hall_of(LONG, workers=workers, limit=limit)
            self.assertEqual(weave(other, [], rounds=rounds - 1), (rounds - 1) * workers)
            self.assertFalse(other.done())
            self.assertEqual(weave(other, [], rounds=9999), workers)
            self.assertEqual(other.log(), hall.log())

    def test_one_worker(self):
        self.assertEqual(run_out(hall_of(PAIR, workers=1)), serial(read_book(PAIR), "main", []).count)

    def test_behind_some_turns(self):
        hall = hall_of(PAIR)
        weave(hall, [(0, None)] * 5)
        self.assertEqual(run_out(hall), 2)
        self.assertEqual((hall.done(), len(hall.log()), hall.weavings()), (True, 9, [5]))

    def test_done(self):
        hall = hall_of(main())
        self.assertEqual(run_out(hall), 1)
        before = whole_state(hall)
        self.assertEqual(run_out(hall), 0)
        self.assertEqual(whole_state(hall), before)

    def test_a_hall_that_stands_as_none_does_by_itself(self):
        # All hands become empty, and what is first is aside.
        hall = Hall(read_book(main("go a slow()", "go b slow()", room=2) + SLOW), "main", [], limit=0)
        weave(hall, [(0, None), (1, None), (1, None), (0, None), (0, None)])
        self.assertEqual((hall.hand(0), hall.hand(1), hall.aside()), (None, None, [()]))
        run_out(hall)
        self.assertTrue(hall.done())


if __name__ == "__main__":
    unittest.main()
