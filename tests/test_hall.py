"""Points 2, 16, 17 and 18: halls, what each kind of turn does and tells, what is told in between, and twins."""

import copy
import itertools
import random
import unittest

from stealhall.errors import BadArgs, BadHall, BadTurn, Missing, Spent, StealError
from stealhall.hall import WORKERS, Hall
from stealhall.plain import serial
from stealhall.reading import read_book
from tests.halls import SLOW, WAITER, hall_of, play, random_turns, state, whole_state
from tests.samples import FAILER, GIVER, main, wrong_things

LARGEST = 10 ** 30 - 1
PAIR = main("go a giver(1)", "go b giver(2)", "wait a a", "wait b b", "give a + b", room=2) + GIVER
WAITS = main("go a slow()", "wait b a", "give b") + SLOW
NO_ARGS = [thing for thing in wrong_things() if thing != [0]]


def roomy(text, room):
    return text.replace("room 0", f"room {room}")


class HallTest(unittest.TestCase):
    def play(self, hall, *texts):
        play(self, hall, *texts)

    def stands(self, hall, hands, lanes):
        many = range(len(hands))
        self.assertEqual([hall.hand(worker) for worker in many], hands)
        self.assertEqual([hall.lane(worker) for worker in many], lanes)


class Beginning(HallTest):
    def test_a_new_hall(self):
        hall = hall_of(roomy(PAIR, 3), workers=3)
        self.stands(hall, [(), None, None], [[], [], []])
        self.assertEqual(state(hall), {
            "hands": [(), None, None], "lanes": [[], [], []], "parked": [], "aside": [], "taken": 2, "greatest": 2,
            "first": (), "done": False, "outcome": None, "ended": [], "log": []})
        self.assertIs(hall.at_work(), False)
        self.assertIs(hall.done(), False)
        self.assertEqual(hall.weavings(), [])

    def test_defaults(self):
        self.assertEqual(WORKERS, 2)
        hall = hall_of(PAIR)
        self.stands(hall, [(), None], [[], []])
        self.assertRaises(BadTurn, hall.hand, 2)

    def test_workers(self):
        for many in range(1, 9):
            hall = hall_of(PAIR, workers=many)
            self.stands(hall, [()] + [None] * (many - 1), [[]] * many)
            self.assertRaises(BadTurn, hall.turn, many)

    def test_limits(self):
        for limit in (None, 0, 1, 10 ** 9):
            self.assertEqual(hall_of(PAIR, limit=limit).taken(), 2)

    def test_what_is_handed_in_stays(self):
        book, args = read_book(main("give n", names="n")), [5]
        hall = Hall(book, "main", args)
        self.assertEqual((args, book), ([5], read_book(main("give n", names="n"))))
        args[0] = 7
        args.append(8)
        self.play(hall, "0 step . 0")
        self.assertEqual(hall.outcome(), ("gives", 5))
        args = [5]
        hall = Hall(book, "main", args)
        twin = hall.twin()
        args.clear()
        self.play(twin.twin(), "0 step . 0")


class Refusals(HallTest):
    def refuses(self, error, *args, **more):
        with self.assertRaises(StealError if issubclass(error, StealError) else error) as caught:
            Hall(*args, **more)
        self.assertIs(type(caught.exception), error)
        return caught.exception

    def setUp(self):
        self.book = read_book(PAIR)

    def test_missing(self):
        for name in ("f", "", "Main", "work", "main ", "a\nb"):
            self.assertEqual(self.refuses(Missing, self.book, name, []).name, name)

    def test_args(self):
        for args in [[1], (), None, "", 0, True, [[]], "main"]:
            self.refuses(BadArgs, self.book, "main", args)
        book = read_book(main("give n", names="n"))
        for args in [[], [1, 2], [True], [None], ["1"], [10 ** 30], [-10 ** 30], (1,), [[1]]] + NO_ARGS:
            self.refuses(BadArgs, book, "main", args)
        self.assertEqual(Hall(book, "main", [-LARGEST]).turn(0), (0, "step", (), 0))

    def test_workers(self):
        for workers in [0, 9, -1, True, False, None, "2", "", 10 ** 39, (2,), [2], []] + wrong_things():
            self.refuses(BadHall, self.book, "main", [], workers=workers)

    def test_limit(self):
        for limit in [10 ** 9 + 1, -1, True, False, "5", "", 10 ** 39, -10 ** 30, (), [3], (None,)] + wrong_things():
            self.refuses(BadHall, self.book, "main", [], limit=limit)

    def test_budget(self):
        steps = serial(self.book, "main", []).count
        self.assertEqual(self.refuses(Spent, self.book, "main", [], budget=steps - 1).steps, steps - 1)
        self.assertEqual(self.refuses(Spent, self.book, "main", [], budget=1).steps, 1)
        for budget in (steps, steps + 1, 2000):
            self.assertFalse(Hall(self.book, "main", [], budget=budget).done())
        long = read_book("work main() room 0\n" + "\n".join(["call a f()"] * 40) + "\nwork f() room 0\n" +
                         "\n".join(["x = 1"] * 9))
        self.assertEqual(self.refuses(Spent, long, "main", []).steps, 400)
        self.assertFalse(Hall(long, "main", [], budget=500).done())

    def test_which_goes_first(self):
        book, wrong = self.book, {"workers": 0, "limit": -1, "budget": 1}
        self.refuses(Missing, book, "f", None, **wrong)
        self.refuses(Missing, book, "f", [1])
        self.refuses(Missing, book, "f", [], workers=9)
        self.refuses(Missing, book, "f", [], budget=1)
        self.refuses(BadArgs, book, "main", [1], **wrong)
        self.refuses(BadArgs, book, "main", [1], workers=True)
        self.refuses(BadArgs, book, "main", [1], limit="1")
        self.refuses(BadArgs, book, "main", [1], budget=1)
        self.refuses(BadHall, book, "main", [], **wrong)
        self.refuses(BadHall, book, "main", [], workers=9, budget=1)
        self.refuses(BadHall, book, "main", [], limit=-1, budget=1)
        self.refuses(Spent, book, "main", [], budget=1)


class WrongTurns(HallTest):
    def refuses(self, hall, function, *args, **more):
        before = whole_state(hall)
        with self.assertRaises(BadTurn) as caught:
            function(*args, **more)
        self.assertEqual(caught.exception.at, 0)
        self.assertEqual(whole_state(hall), before)

    def halls(self):
        """A hall at its beginning, one with work in lanes and hands, and one that is done."""
        for turns in ((), (0, 1, 1, 0), (0,) * 20):
            hall = hall_of(PAIR, workers=3)
            for worker in turns:
                hall.turn(worker)
            yield hall

    def test_workers_that_are_none(self):
        for hall in self.halls():
            for thing in [3, 8, -1, True, False, None, "0", "", (0,), [0], [], ()] + wrong_things():
                self.refuses(hall, hall.turn, thing)
                self.refuses(hall, hall.turn, thing, victim=1)
                self.refuses(hall, hall.hand, thing)
                self.refuses(hall, hall.lane, thing)

    def test_victims_that_are_none(self):
        for hall in self.halls():
            for worker in range(3):
                for thing in [worker, 3, 8, -1, True, False, "0", "", (0,), [0], [], ()] + wrong_things():
                    self.refuses(hall, hall.turn, worker, victim=thing)

    def test_one_worker_has_no_victim(self):
        hall = hall_of(PAIR, workers=1)
        for victim in (0, 1, True, False, -1):
            self.refuses(hall, hall.turn, 0, victim=victim)
        self.play(hall, "0 step . 0")

    def test_a_victim_of_a_hand_that_is_not_empty(self):
        hall = hall_of(PAIR, workers=3)
        self.play(hall, "0 step . 0 @2", "0 step 0 0 @1")


class Steps(HallTest):
    def test_one_task(self):
        hall = hall_of(main("a = 1", "give a", room=4))
        self.play(hall, "0 step . 0")
        self.stands(hall, [(), None], [[], []])
        self.play(hall, "0 step . 1")
        self.stands(hall, [None, None], [[], []])
        self.assertEqual((hall.done(), hall.outcome(), hall.first()), (True, ("gives", 1), None))
        self.assertEqual((hall.taken(), hall.greatest()), (0, 4))

    def test_a_go(self):
        hall = hall_of(PAIR)
        self.play(hall, "0 step . 0")
        self.stands(hall, [(0,), None], [[()], []])
        self.assertEqual((hall.first(), hall.done(), hall.outcome(), hall.ended()), ((0,), False, None, []))

    def test_a_go_within_a_go(self):
        hall = hall_of(main("go a nest(2)") + "\nwork nest(n) room 0\n if n\n go a nest(n - 1)\n end")
        self.play(hall, "0 step . 0", "0 step 0 0", "0 step 0 1", "0 step 0.0 0", "0 step 0.0 1")
        self.stands(hall, [(0, 0, 0), None], [[(0, 0), (0,), ()], []])
        self.assertEqual(hall.first(), (0, 0, 0))
        self.play(hall, "1 steal . 0", "1 step . 1", "1 steal 0 0")
        self.stands(hall, [(0, 0, 0), (0,)], [[(0, 0)], []])
        self.assertEqual((hall.outcome(), hall.done(), hall.first()), (("gives", 0), False, (0, 0, 0)))

    def test_the_second_go_of_a_task(self):
        hall = hall_of(PAIR)
        self.play(hall, "0 step . 0", "1 steal . 0", "1 step . 1")
        self.stands(hall, [(0,), (1,)], [[], [()]])
        self.assertEqual(hall.first(), (0,))
        self.play(hall, "0 step 0 0")
        self.assertEqual(hall.first(), (1,))
        self.assertEqual(hall.ended(), [((0,), ("gives", 1))])

    def test_a_call_stays_in_the_hand(self):
        hall = hall_of(main("call a giver(1)", room=2) + roomy(GIVER, 5))
        self.play(hall, "0 step . 0")
        self.stands(hall, [(), None], [[], []])
        self.assertEqual((hall.taken(), hall.greatest()), (7, 7))
        self.play(hall, "0 step . 1")
        self.assertEqual((hall.taken(), hall.greatest()), (2, 7))

    def test_one_worker_does_as_the_plain_run(self):
        hall = hall_of(PAIR, workers=1)
        self.play(hall, "0 step . 0", "0 step 0 0", "0 step . 1", "0 step 1 0", "0 step . 2", "0 step . 3", "0 step . 4",
                  "0 rest - -")
        self.assertEqual(hall.outcome(), ("gives", 3))

    def test_a_task_that_fails(self):
        hall = hall_of(main("go a failer(4)", "wait b a", room=1) + FAILER)
        self.play(hall, "0 step . 0", "0 step 0 0", "0 step . 1")
        self.assertEqual(hall.ended(), [((), ("fails", 4)), ((0,), ("fails", 4))])
        self.assertEqual((hall.outcome(), hall.done(), hall.taken()), (("fails", 4), True, 0))

    def test_a_task_fails_with_all_its_frames(self):
        hall = hall_of(main("call a failer(4)", room=1) + roomy(FAILER, 6))
        self.play(hall, "0 step . 0", "0 step . 1")
        self.assertEqual((hall.outcome(), hall.taken(), hall.greatest()), (("fails", 4), 0, 7))

    def test_a_future_is_given(self):
        hall = hall_of(main("go a giver(1)", "give a") + GIVER)
        self.play(hall, "0 step . 0", "1 steal . 0", "1 step . 1")
        self.assertEqual((hall.outcome(), hall.done()), (("gives", ("future", (0,))), False))
        self.play(hall, "0 step 0 0")
        self.assertEqual(hall.done(), True)


class Parks(HallTest):
    def test_a_wait_for_a_task_that_has_ended(self):
        hall = hall_of(WAITS)
        self.play(hall, "0 step . 0", "0 step 0 0", "0 step 0 1", "0 step . 1", "0 step . 2")
        self.assertEqual(hall.outcome(), ("gives", 1))

    def test_a_wait_for_one_that_has_not(self):
        hall = hall_of(WAITS)
        self.play(hall, "0 step . 0", "1 steal . 0", "1 park . 0")
        self.stands(hall, [(0,), None], [[], []])
        self.assertEqual((hall.parked(), hall.aside()), ([((), (0,))], []))
        self.play(hall, "1 rest - -", "0 step 0 0", "1 rest - 0", "0 step 0 1")
        self.stands(hall, [(), None], [[], []])
        self.assertEqual(hall.parked(), [])
        self.play(hall, "0 step . 1", "0 step . 2", "0 rest - -")

    def test_what_waits_once_more_is_a_step(self):
        hall = hall_of(main("go a slow()", "wait b a", "wait c a", "give b + c") + SLOW)
        self.play(hall, "0 step . 0", "1 steal . 0", "1 park . 0", "0 step 0 0", "0 step 0 1", "0 step . 1", "0 step . 2",
                  "0 step . 3")
        self.assertEqual(hall.outcome(), ("gives", 2))

    def test_a_park_with_a_lane_that_is_not_bare(self):
        hall = hall_of(main("go a slow()", "go b waiter(a)") + SLOW + WAITER)
        self.play(hall, "0 step . 0", "1 steal . 0", "1 step . 1")
        self.stands(hall, [(0,), (1,)], [[], [()]])
        self.play(hall, "1 park 1 0")
        self.stands(hall, [(0,), ()], [[], []])
        self.play(hall, "1 step . 2")
        self.stands(hall, [(0,), None], [[], []])
        self.assertEqual((hall.outcome(), hall.done(), hall.parked()), (("gives", 0), False, [((1,), (0,))]))

    def test_an_end_with_a_lane_that_is_not_bare(self):
        hall = hall_of(PAIR)
        self.play(hall, "0 step . 0", "0 step 0 0")
        self.stands(hall, [(), None], [[], []])

    def test_a_wait_that_fails_behind_a_park(self):
        for row, number in (("wait b a", 4), ("wait b a else x", -1), ("wait b a else a + 1", -2)):
            hall = hall_of(main("go a failer(4)", row) + FAILER.replace("\n fail", "\n x = 1\n fail"))
            self.play(hall, "0 step . 0", "1 steal . 0", "1 park . 0", "0 step 0 0", "0 step 0 1", "0 step . 1")
            self.assertEqual(hall.outcome(), ("fails", number))

    def test_a_wait_that_fails_is_a_step(self):
        for row, number in (("wait b x", -1), ("wait b x else 1", -1), ("wait b n", -3), ("wait b n else 1", -3)):
            for limit in (None, 0):
                hall = hall_of(main("go a slow()", row, names="n") + SLOW, 1, limit=limit)
                self.play(hall, "0 step . 0", "1 steal . 0", "1 step . 1")
                self.assertEqual((hall.outcome(), hall.parked(), hall.done()), (("fails", number), [], False))

    def test_several_parked_for_one(self):
        text = main("go a slow()", "go b waiter(a)", "go c waiter(a)", "go d waiter(c)", "wait e a") + SLOW + WAITER
        hall = hall_of(text, workers=3)
        self.play(hall, "0 step . 0", "1 steal . 0", "1 step . 1", "1 park 1 0", "1 step . 2", "1 park 2 0", "1 step . 3",
                  "1 park 3 2", "1 park . 0")
        self.assertEqual(hall.parked(), [((), (0,)), ((1,), (0,)), ((2,), (0,)), ((3,), (2,))])
        self.stands(hall, [(0,), None, None], [[], [], []])
        self.play(hall, "0 step 0 0", "0 step 0 1")
        self.stands(hall, [(1,), None, None], [[(2,), ()], [], []])
        self.assertEqual(hall.parked(), [((3,), (2,))])

    def fitted(self, rows, parks, lane, behind):
        """Park tasks for (0,) and for (1,), whose ends then come by worker 0: its lane behind the one and the other."""
        hall = hall_of(main("go c slow()", *rows) + SLOW + WAITER)
        self.play(hall, "0 step . 0", "1 steal . 0", *parks, "0 step 0 0", "0 step 0 1")
        self.stands(hall, [(1,), None], [lane, []])
        self.play(hall, "0 step 1 0", "0 step 1 1")
        self.stands(hall, [behind[0], None], [behind[1:], []])
        self.assertEqual(hall.parked(), [])

    def test_fitted_ahead_of_all(self):
        self.fitted(["go x waiter(c)", "go z waiter(x)", "go y waiter(c)", "wait c c"],
                    ["1 step . 1", "1 park 1 0", "1 step . 2", "1 park 2 1", "1 step . 3", "1 park 3 0", "1 park . 0"],
                    [(3,), ()], [(2,), (3,), ()])

    def test_fitted_amid(self):
        self.fitted(["go x waiter(c)", "go y waiter(c)", "go z waiter(x)", "wait c c"],
                    ["1 step . 1", "1 park 1 0", "1 step . 2", "1 park 2 0", "1 step . 3", "1 park 3 1", "1 park . 0"],
                    [(2,), ()], [(2,), (3,), ()])

    def test_fitted_behind_all(self):
        self.fitted(["go x waiter(c)", "go y waiter(c)", "go z waiter(c)", "wait x x"],
                    ["1 step . 1", "1 park 1 0", "1 step . 2", "1 park 2 0", "1 step . 3", "1 park 3 0", "1 park . 1"],
                    [(2,), (3,)], [(2,), (3,), ()])


class Limits(HallTest):
    def test_a_limit_of_nought(self):
        hall = hall_of(main("go a slow()", "go b slow()", room=2) + roomy(SLOW, 3), limit=0)
        self.play(hall, "0 step . 0")
        self.assertEqual(hall.taken(), 5)
        self.play(hall, "1 steal . 0", "1 aside . -")
        self.stands(hall, [(0,), None], [[], []])
        self.assertEqual((hall.aside(), hall.parked(), hall.first()), ([()], [], (0,)))
        self.play(hall, "1 rest - 0", "0 step 0 0", "1 rest - -", "0 step 0 1")
        self.stands(hall, [None, None], [[], []])
        self.assertEqual((hall.first(), hall.done()), ((), False))
        self.play(hall, "1 lift . -")
        self.stands(hall, [None, ()], [[], []])
        self.assertEqual(hall.aside(), [])
        self.play(hall, "0 rest - 1", "1 step . 1", "1 step 1 0")
        self.assertEqual((hall.taken(), hall.greatest()), (5, 5))

    def test_a_limit_that_is_just_kept(self):
        text = main("go a slow()", "go b slow()", room=2) + roomy(SLOW, 3)
        hall = hall_of(text, limit=8)
        self.play(hall, "0 step . 0", "1 steal . 0", "1 step . 1")
        self.assertEqual((hall.taken(), hall.greatest()), (8, 8))
        hall = hall_of(text, limit=7)
        self.play(hall, "0 step . 0", "1 steal . 0", "1 aside . -")
        self.assertEqual((hall.taken(), hall.greatest()), (5, 5))

    def test_a_call_is_put_aside_too(self):
        hall = hall_of(main("go a slow()", "call b slow()", room=2) + roomy(SLOW, 3), limit=7)
        self.play(hall, "0 step . 0", "1 steal . 0", "1 aside . -", "0 step 0 0", "0 step 0 1", "0 lift . -", "0 step . 1")
        self.stands(hall, [(), None], [[], []])

    def test_other_rows_are_not_put_aside(self):
        hall = hall_of(main("go a slow()", "b = 1", "if b", "wait b a", "end") + SLOW, limit=0)
        self.play(hall, "0 step . 0", "1 steal . 0", "1 step . 1", "1 step . 2", "1 park . 0")

    def test_rooms_of_nought(self):
        text = main("go a slow()", "go b slow()") + SLOW
        self.play(hall_of(text, limit=0), "0 step . 0", "1 steal . 0", "1 step . 1")
        hall = hall_of(text.replace("main() room 0", "main() room 5"), limit=4)
        self.play(hall, "0 step . 0", "1 steal . 0", "1 aside . -", "1 rest - -")
        hall = hall_of(text.replace("main() room 0", "main() room 5"), limit=5)
        self.play(hall, "0 step . 0", "1 steal . 0", "1 step . 1")

    def test_a_limit_that_is_never_reached(self):
        text = main("go a slow()", "go b slow()", "call c slow()", room=2) + roomy(SLOW, 3)
        for turns in itertools.product((0, 1), repeat=8):
            free, bound = hall_of(text), hall_of(text, limit=10 ** 9)
            for worker in turns:
                self.assertEqual(free.turn(worker), bound.turn(worker))
            self.assertEqual(state(free), state(bound))

    def test_what_is_first_is_never_put_aside(self):
        text = main("go a g()", "wait b a", room=9) + "\nwork g() room 9\n call a slow()\n go b slow()" + roomy(SLOW, 9)
        for workers in (1, 2):
            hall = hall_of(text, workers=workers, limit=0)
            self.play(hall, "0 step . 0", "0 step 0 0", "0 step 0 1", "0 step 0 2", "0 step 0 3", "0 step 0.0 0",
                      "0 step 0.0 1", "0 step 0 4", "0 step . 1", "0 step . 2")
            self.assertEqual((hall.done(), hall.greatest()), (True, 27))

    def test_a_row_that_fails_is_a_step(self):
        for row, number in (("go b giver(x)", -1), ("call b giver(x)", -1), ("go b giver(a + 1)", -2),
                            ("call b giver(1 < a)", -2), (f"go b giver({LARGEST} + 1)", -4),
                            (f"call b giver({LARGEST} * 2)", -4)):
            hall = hall_of(main("go a slow()", row) + roomy(SLOW + GIVER, 3), limit=0)
            self.play(hall, "0 step . 0", "1 steal . 0", "1 step . 1")
            self.assertEqual((hall.outcome(), hall.aside(), hall.done()), (("fails", number), [], False))

    def test_a_go_that_would_be_too_deep_is_a_step(self):
        for word in ("go", "call"):
            text = main("call a deep(28)") + roomy(f"""
work deep(n) room 0
 if n
 call a deep(n - 1)
 give a
 end
 {word} b slow()
work starter() room 0
 go a slow()
 call b deep(27)""" + SLOW, 1)
            self.assertEqual(serial(read_book(text), "main", []).result, ("fails", -5))
            # Behind starter's go its task is not first; deep's last row fails at a depth of thirty, with no room left.
            hall = hall_of(text.replace("call a deep(28)", "call a starter()"), limit=30)
            while not hall.lane(0):
                hall.turn(0)
            self.play(hall, "1 steal . 0")
            while hall.hand(1) == ():
                told = hall.turn(1)
                self.assertEqual(told[1], "step")
            self.assertEqual(hall.outcome(), ("fails", -5))
            self.assertEqual((hall.taken(), hall.greatest()), (1, 30))

    def test_aside_is_told_in_plain_order(self):
        text = main("go a mid()", "go b mid()", "go c slow()", room=1) + "\nwork mid() room 1\n x = 1\n call c slow()" + \
            roomy(SLOW, 9)
        hall = hall_of(text, workers=3, limit=3)
        self.play(hall, "0 step . 0", "1 steal . 0", "1 step . 1", "2 steal . 1", "2 aside . -", "1 step 1 0",
                  "1 aside 1 -")
        self.assertEqual(hall.aside(), [(1,), ()])
        self.assertEqual((hall.first(), hall.taken()), ((0,), 3))
        self.play(hall, "2 rest - -", "0 step 0 0", "0 step 0 1", "0 step 0 2", "0 step 0 3", "0 step 0 4")
        self.stands(hall, [None, None, None], [[], [], []])
        self.play(hall, "2 lift 1 -", "0 rest - -", "1 rest - 2", "2 step 1 1")

    def test_of_several_that_have_room_the_one_ahead_is_lifted(self):
        text = main("go a long()", "go b mid()", "go c tiny()", room=1) + roomy("""
work mid() room 0
 x = 1
 call c tiny()
work long() room 0
 call x big()
 x = 1
 x = 1
work tiny() room 0""", 1) + "\nwork big() room 9"
        hall = hall_of(text, workers=3, limit=11)
        self.play(hall, "0 step . 0", "1 steal . 0", "1 step . 1", "2 steal . 1", "0 step 0 0", "2 aside . -",
                  "1 step 1 0", "1 aside 1 -", "1 rest - -", "0 step 0 1", "2 lift 1 -", "1 lift . -")
        self.stands(hall, [(0,), (), (1,)], [[], [], []])

    def test_one_behind_is_lifted_where_the_one_ahead_has_no_room(self):
        text = main("go a long()", "go b mid()", "go c tiny()", room=1) + roomy("""
work mid() room 0
 x = 1
 call c big()
work long() room 0
 call x big()
 x = 1
 x = 1
work tiny() room 0""", 1) + "\nwork big() room 9"
        hall = hall_of(text, workers=3, limit=11)
        self.play(hall, "0 step . 0", "1 steal . 0", "1 step . 1", "2 steal . 1", "0 step 0 0", "2 aside . -",
                  "1 step 1 0", "1 aside 1 -", "0 step 0 1", "2 lift . -", "1 rest - -")
        self.assertEqual(hall.aside(), [(1,)])

    def test_lift_ahead_of_steal(self):
        text = main("go a mid()", "go b tiny()", room=1) + """
work mid() room 1
 call x big()
 go c leaf()
work big() room 8
work leaf() room 1
work tiny() room 3"""
        for victim in ("", " @0"):
            hall = hall_of(text, limit=10)
            self.play(hall, "0 step . 0", "1 steal . 0", "0 step 0 0", "1 aside . -", "1 rest - -", "0 step 0 1",
                      "0 step 0 2")
            self.stands(hall, [(0, 0), None], [[(0,)], []])
            self.play(hall, "1 lift . -" + victim)
            self.stands(hall, [(0, 0), ()], [[(0,)], []])

    def test_steal_where_none_can_be_lifted(self):
        text = main("go a mid()", "go b tiny()", room=1) + "\nwork mid() room 1\n go c leaf()\nwork leaf() room 1" + \
            "\nwork tiny() room 9"
        hall = hall_of(text, limit=10)
        self.play(hall, "0 step . 0", "1 steal . 0", "1 aside . -", "0 step 0 0")
        self.stands(hall, [(0, 0), None], [[(0,)], []])
        self.play(hall, "1 steal 0 0")
        self.assertEqual(hall.aside(), [()])

    def test_put_aside_once_more(self):
        text = main("go a mid()", "go b tiny()", room=1) + "\nwork mid() room 1\n call x big()\n call x big()\n" + \
            "work big() room 8\nwork tiny() room 3"
        hall = hall_of(text, limit=10)
        self.play(hall, "0 step . 0", "1 steal . 0", "0 step 0 0", "1 aside . -", "0 step 0 1", "1 lift . -", "0 step 0 2",
                  "1 aside . -", "1 rest - -")

    def test_aside_with_a_lane_that_is_not_bare(self):
        text = main("go a slow()", "go b mid()", room=1) + "\nwork mid() room 1\n call c slow()" + roomy(SLOW, 3)
        hall = hall_of(text, limit=5)
        self.play(hall, "0 step . 0", "1 steal . 0", "1 step . 1")
        self.stands(hall, [(0,), (1,)], [[], [()]])
        self.play(hall, "1 aside 1 -")
        self.stands(hall, [(0,), ()], [[], []])
        self.play(hall, "1 step . 2")


class Steals(HallTest):
    def two_lanes(self):
        """A hall of four whose workers 0 and 1 have something in their lanes."""
        text = main("go a mid()", "go b mid()") + "\nwork mid() room 0\n go c slow()" + SLOW
        hall = hall_of(text, workers=4)
        self.play(hall, "0 step . 0", "1 steal . 0", "1 step . 1", "0 step 0 0")
        self.stands(hall, [(0, 0), (1,), None, None], [[(0,)], [()], [], []])
        return hall

    def test_none_told(self):
        self.play(self.two_lanes(), "2 steal 0 0", "3 steal . 1")
        self.play(self.two_lanes(), "3 steal 0 0", "2 steal . 1", "2 step . 2", "2 rest - -")

    def test_the_next_worker_ahead_of_those_behind(self):
        hall = self.two_lanes()
        self.play(hall, "1 step 1 0", "2 steal . 1 @1", "3 steal 0 0", "3 step 0 1", "3 steal 1 1")
        hall = hall_of(main("go a mid()", "go b mid()") + "\nwork mid() room 0\n go c slow()" + SLOW, workers=4)
        self.play(hall, "0 step . 0", "2 steal . 0", "2 step . 1", "0 step 0 0")
        self.play(hall, "1 steal . 2", "3 steal 0 0")

    def test_a_victim_with_work(self):
        self.play(self.two_lanes(), "2 steal . 1 @1", "3 steal 0 0 @0")
        self.play(self.two_lanes(), "3 steal 0 0 @0", "2 steal . 1 @1")

    def test_a_victim_whose_lane_is_bare(self):
        hall = self.two_lanes()
        self.play(hall, "2 rest - 3", "3 rest - 2")
        self.stands(hall, [(0, 0), (1,), None, None], [[(0,)], [()], [], []])

    def test_what_lies_at_the_thieves_end_is_stolen(self):
        hall = hall_of(main("go a mid()") + "\nwork mid() room 0\n go c slow()" + SLOW)
        self.play(hall, "0 step . 0", "0 step 0 0")
        self.stands(hall, [(0, 0), None], [[(0,), ()], []])
        self.play(hall, "1 steal . 0")
        self.stands(hall, [(0, 0), ()], [[(0,)], []])

    def test_a_steal_is_a_turn_of_its_own(self):
        hall = hall_of(PAIR)
        self.play(hall, "0 step . 0", "1 steal . 0")
        self.assertEqual((hall.hand(1), hall.ended(), hall.taken()), ((), [], 2))

    def test_rests(self):
        hall = hall_of(PAIR, workers=3)
        self.play(hall, "1 rest - -", "2 rest - 0", "2 rest - 1", "1 rest - 2")
        self.stands(hall, [(), None, None], [[], [], []])

    def test_turns_of_a_hall_that_is_done(self):
        for limit in (None, 0):
            hall = hall_of(main(), workers=2, limit=limit)
            self.play(hall, "0 step . 0")
            before = {**state(hall), "log": None}
            self.play(hall, "0 rest - -", "1 rest - -", "0 rest - 1", "1 rest - 0")
            self.assertEqual({**state(hall), "log": None}, before)


class Told(HallTest):
    def test_told_lists_are_the_askers_own(self):
        text = main("go a slow()", "go b waiter(a)", "go c slow()", room=1) + roomy(SLOW, 3) + WAITER
        hall = hall_of(text, workers=3, limit=6)
        self.play(hall, "0 step . 0", "1 steal . 0", "1 step . 1", "1 park 1 0", "1 aside . -")
        before = whole_state(hall)
        self.assertEqual((hall.parked(), hall.aside()), ([((1,), (0,))], [()]))
        for told in (hall.lane(0), hall.parked(), hall.aside(), hall.ended(), hall.log(), hall.weavings()):
            told.append(7)
            told[0] = 8
        self.assertEqual(whole_state(hall), before)
        kept = copy.deepcopy(before)
        while not hall.done():
            hall.turn(0)
        self.assertEqual(before, kept)

    def test_kinds(self):
        hall = hall_of(PAIR)
        self.assertIsInstance(hall.turn(0), tuple)
        self.assertIsInstance(hall.log()[0], tuple)
        self.assertIs(hall.done(), False)
        while not hall.done():
            hall.turn(0)
        self.assertIs(hall.done(), True)
        self.assertEqual((type(hall.taken()), type(hall.greatest())), (int, int))

    def test_any_turns_tell_what_the_plain_run_does(self):
        text = main("go a slow()", "go b waiter(a)", "go c failer(3)", "wait c c else b", "wait c c", "give c",
                    room=1) + roomy(SLOW + WAITER + FAILER, 2)
        run = serial(read_book(text), "main", [])
        chance = random.Random(1)
        for workers, limit in itertools.product((1, 2, 3, 8), (None, 0, 3, 5, 100)):
            for _ in range(5):
                hall = hall_of(text, workers=workers, limit=limit)
                for worker, victim in random_turns(chance, workers):
                    hall.turn(worker, victim=victim)
                    if hall.done():
                        break
                self.assertEqual((hall.ended(), hall.outcome()), (run.ends(), run.result))
                self.assertEqual((hall.taken(), hall.first(), hall.parked(), hall.aside()), (0, None, [], []))
                self.assertEqual(sum(entry[1] == "step" for entry in hall.log()), run.count)


class Twins(HallTest):
    TEXT = main("go a slow()", "go b waiter(a)", "call d starter()", "wait b b", "give b + d", room=1) + \
        roomy(SLOW + WAITER, 2) + "\nwork starter() room 1\n go a slow()\n wait b a\n give b"

    def test_the_same_answers(self):
        for limit in (None, 0, 4):
            for turns in ([], [0], [0, 1, 1], [0, 1, 1, 1, 1, 0], [0] * 40):
                hall = hall_of(self.TEXT, workers=3, limit=limit)
                for worker in turns:
                    hall.turn(worker)
                twin = hall.twin()
                self.assertIs(type(twin), Hall)
                self.assertEqual(whole_state(twin), whole_state(hall))

    def test_neither_changes_the_other(self):
        chance = random.Random(2)
        for limit in (None, 0, 4, 100):
            for ahead in range(20):
                hall = hall_of(self.TEXT, workers=3, limit=limit)
                turns = random_turns(chance, 3)
                for worker, victim in itertools.islice(turns, ahead):
                    hall.turn(worker, victim=victim)
                twin, before = hall.twin(), whole_state(hall)
                told = []
                for worker, victim in itertools.islice(turns, 60):
                    told.append((worker, victim, hall.turn(worker, victim=victim)))
                self.assertEqual(whole_state(twin), before)
                behind, third = whole_state(hall), twin.twin()
                for worker, victim, happening in told:
                    self.assertEqual(twin.turn(worker, victim=victim), happening)
                self.assertEqual(whole_state(twin), behind)
                self.assertEqual(whole_state(hall), behind)
                self.assertEqual(whole_state(third), before)

    def test_a_twin_goes_another_way(self):
        hall = hall_of(self.TEXT)
        hall.turn(0)
        twin = hall.twin()
        twin.turn(1)
        self.stands(hall, [(0,), None], [[()], []])
        self.stands(twin, [(0,), ()], [[], []])
        hall.turn(0)
        self.assertEqual(hall.log(), [(0, "step", (), 0), (0, "step", (0,), 0)])
        self.assertEqual(twin.log(), [(0, "step", (), 0), (1, "steal", (), 0)])

    def test_a_twin_of_a_run_with_a_large_budget(self):
        long = "work main() room 0\n" + "\n".join(["call a f()"] * 40) + "\nwork f() room 0\n" + "\n".join(["x = 1"] * 9)
        hall = hall_of(long, budget=500)
        twin = hall.twin()
        while not twin.done():
            twin.turn(0)
        self.assertEqual((len(twin.log()), hall.log()), (441, []))


if __name__ == "__main__":
    unittest.main()
