"""Points 2, 12 and 13: the steps of a web, what they come of, its room and its loose end."""

import unittest

from stealhall.errors import BadArgs, Missing, Spent
from stealhall.plain import serial
from stealhall.reading import read_book
from stealhall.web import Web
from tests import test_plain
from tests.samples import FAILER, GIVER, main

LARGEST = 10 ** 30 - 1
WAITER = "\nwork waiter(p) room 0\n wait a p\n give a"


def web_of(text, *args, name="main"):
    return Web(read_book(text), name, list(args))


def step(path, n, frame=0, waited=None, started=None, begun=False, change=0, ended=False):
    return (path, n, frame, waited, started, begun, change, ended)


class WebTest(unittest.TestCase):
    def tells(self, text, *nodes, args=()):
        web = web_of(text, *args)
        self.assertEqual(web.nodes(), list(nodes), text)
        self.assertEqual(len(web), len(nodes))
        for node in web.nodes():
            self.assertEqual([type(part) for part in node[5:]], [bool, int, bool])

    def loose(self, told, text, *args):
        self.assertEqual(web_of(text, *args).loose(), told, text)


class Steps(WebTest):
    def test_a_give(self):
        self.tells(main(room=7), step((), 0, change=-7, ended=True))
        self.tells(main("give 1", "give 2", room=7), step((), 0, change=-7, ended=True))
        self.tells(main("give 1", room=0), step((), 0, ended=True))

    def test_puts_and_ifs(self):
        self.tells(main("a = 1", "if a", "b = 2", "else", "b = 3", "end", room=2),
                   step((), 0), step((), 1), step((), 2), step((), 3, change=-2, ended=True))

    def test_a_call(self):
        self.tells(main("call a f()", "call b f()", "give 1", room=2) + "\nwork f() room 5\n x = 1\n give x",
                   step((), 0, begun=True, change=5), step((), 1, 1), step((), 2, 1, change=-5),
                   step((), 3, begun=True, change=5), step((), 4, 2), step((), 5, 2, change=-5),
                   step((), 6, change=-2, ended=True))

    def test_frames_are_numbered_by_their_beginnings(self):
        self.tells(main("call a f()", "call b g()", room=1) + "\nwork f() room 2\n call a g()\nwork g() room 3",
                   step((), 0, begun=True, change=2), step((), 1, 1, begun=True, change=3), step((), 2, 2, change=-3),
                   step((), 3, 1, change=-2), step((), 4, begun=True, change=3), step((), 5, 3, change=-3),
                   step((), 6, change=-1, ended=True))

    def test_a_go_and_a_wait(self):
        self.tells(main("go a giver(3)", "wait b a", "give b", room=1) + GIVER.replace("room 0", "room 4"),
                   step((), 0, started=(0,), begun=True, change=4), step((0,), 0, change=-4, ended=True),
                   step((), 1, waited=(0,)), step((), 2, change=-1, ended=True))

    def test_a_go_of_a_called_frame(self):
        self.tells(main("go a giver(1)", "call b mid()") + GIVER + "\nwork mid() room 0\n go a giver(2)\n wait a a",
                   step((), 0, started=(0,), begun=True), step((0,), 0, ended=True), step((), 1, begun=True),
                   step((), 2, 1, started=(1,), begun=True), step((1,), 0, ended=True), step((), 3, 1, waited=(1,)),
                   step((), 4, 1), step((), 5, ended=True))

    def test_frames_of_a_started_task_are_numbered_anew(self):
        self.tells(main("call a giver(1)", "go b mid()", room=1) + GIVER.replace("room 0", "room 2") +
                   "\nwork mid() room 3\n call a giver(2)",
                   step((), 0, begun=True, change=2), step((), 1, 1, change=-2),
                   step((), 2, started=(0,), begun=True, change=3), step((0,), 0, begun=True, change=2),
                   step((0,), 1, 1, change=-2), step((0,), 2, change=-3, ended=True), step((), 3, change=-1, ended=True))

    def test_rooms_of_nought(self):
        self.tells(main("call a giver(1)", "go b giver(2)") + GIVER,
                   step((), 0, begun=True), step((), 1, 1), step((), 2, started=(0,), begun=True),
                   step((0,), 0, ended=True), step((), 3, ended=True))


class StepsThatFail(WebTest):
    def test_in_the_main_task(self):
        for row in ("fail 1", "fail x", "a = x", "give x", "if x\nend", "go a giver(x)", "call a giver(x)", "wait a x",
                    "wait a x else 1", "wait a n", "wait a n else 1", f"a = {LARGEST} + 1"):
            self.tells(main(row, room=3, names="n") + GIVER, step((), 0, change=-3, ended=True), args=[1])

    def test_all_frames_of_the_task_end(self):
        text = main("call a f()", room=1) + "\nwork f() room 10\n call a g()\n fail 2\nwork g() room 100\n fail 1"
        self.tells(text, step((), 0, begun=True, change=10), step((), 1, 1, begun=True, change=100),
                   step((), 2, 2, change=-111, ended=True))

    def test_frames_that_ended_before_do_not_end_again(self):
        text = main("call a g()", "call a f()", room=1) + "\nwork f() room 10\n call a g()\n fail 2\nwork g() room 100"
        self.tells(text, step((), 0, begun=True, change=100), step((), 1, 1, change=-100),
                   step((), 2, begun=True, change=10), step((), 3, 2, begun=True, change=100), step((), 4, 3, change=-100),
                   step((), 5, 2, change=-11, ended=True))

    def test_frames_of_other_tasks_stay(self):
        text = main("go a f()", "wait b a else 1", room=1) + "\nwork f() room 10\n call a g()\nwork g() room 100\n fail 1"
        self.tells(text, step((), 0, started=(0,), begun=True, change=10), step((0,), 0, begun=True, change=100),
                   step((0,), 1, 1, change=-110, ended=True), step((), 1, waited=(0,)), step((), 2, change=-1, ended=True))

    def test_a_wait_that_fails_by_what_it_waited_for(self):
        self.tells(main("go a failer(7)", "wait b a", room=1) + FAILER.replace("room 0", "room 2"),
                   step((), 0, started=(0,), begun=True, change=2), step((0,), 0, change=-2, ended=True),
                   step((), 1, waited=(0,), change=-1, ended=True))

    def test_a_wait_that_fails_by_its_expression(self):
        for tree in ("x", "a + 1", f"{LARGEST} + 1"):
            self.tells(main("go a failer(7)", f"wait b a else {tree}", room=1) + FAILER,
                       step((), 0, started=(0,), begun=True), step((0,), 0, ended=True),
                       step((), 1, waited=(0,), change=-1, ended=True))

    def test_a_wait_that_fails_in_a_called_frame(self):
        self.tells(main("go a failer(7)", "call b waiter(a)", room=3) + FAILER + WAITER.replace("room 0", "room 4"),
                   step((), 0, started=(0,), begun=True), step((0,), 0, ended=True), step((), 1, begun=True, change=4),
                   step((), 2, 1, waited=(0,), change=-7, ended=True))

    def test_a_go_or_call_that_would_be_too_deep(self):
        for word in ("go", "call"):
            text = f"work main(n) room 1\n if n == 30\n {word} a main(n)\n end\n call a main(n + 1)\n give a"
            web = web_of(text, 1)
            self.assertEqual(web.nodes()[-1], step((), 59, 29, change=-30, ended=True))
            self.assertEqual(len(web), 60)


class ComesOf(WebTest):
    def test_the_very_first_step(self):
        self.assertEqual(web_of(main()).comes_of((), 0), [])
        self.assertEqual(web_of(main("go a giver(1)") + GIVER).comes_of((), 0), [])

    def test_the_one_ahead_in_its_task(self):
        web = web_of(main("a = 1", "call b f()", "give a") + "\nwork f() room 0\n x = 1")
        for n in range(1, 5):
            self.assertEqual(web.comes_of((), n), [((), n - 1)])

    def test_over_a_started_task(self):
        web = web_of(main("a = 1", "go b giver(1)", "give a") + GIVER)
        self.assertEqual(web.comes_of((0,), 0), [((), 1)])
        self.assertEqual(web.comes_of((), 2), [((), 1)])

    def test_a_tasks_first_step(self):
        web = web_of(main("go a outer()", "x = 1", "call b mid()") + GIVER + "\nwork outer() room 0\n x = 1\n go a giver(1)" +
                     "\nwork mid() room 0\n go a giver(2)")
        self.assertEqual(web.comes_of((0,), 0), [((), 0)])
        self.assertEqual(web.comes_of((0, 0), 0), [((0,), 1)])
        self.assertEqual(web.comes_of((1,), 0), [((), 3)])

    def test_a_wait(self):
        web = web_of(main("go a long()", "go b giver(1)", "wait c a", "wait d b", "give c") + GIVER +
                     "\nwork long() room 0\n x = 1\n y = 2\n give y")
        self.assertEqual(web.comes_of((), 2), [((), 1), ((0,), 2)])
        self.assertEqual(web.comes_of((), 3), [((), 2), ((1,), 0)])

    def test_a_wait_for_a_failed_task(self):
        web = web_of(main("go a failer(1)", "wait b a") + FAILER)
        self.assertEqual(web.comes_of((), 1), [((), 0), ((0,), 0)])

    def test_a_wait_that_comes_to_no_future(self):
        web = web_of(main("a = 1", "wait b a"))
        self.assertEqual(web.comes_of((), 1), [((), 0)])

    def test_a_tasks_first_step_that_is_a_wait(self):
        web = web_of(main("go a giver(1)", "go b waiter(a)") + GIVER + WAITER)
        self.assertEqual(web.comes_of((1,), 0), [((), 1), ((0,), 0)])

    def test_sorted_as_tuples_go(self):
        web = web_of(main("go a giver(1)", "go b outer(a)") + GIVER + WAITER +
                     "\nwork outer(p) room 0\n x = 1\n go a waiter(p)\n wait b p")
        self.assertEqual(web.comes_of((1, 0), 0), [((0,), 0), ((1,), 1)])
        self.assertEqual(web.comes_of((1,), 2), [((0,), 0), ((1,), 1)])

    def test_a_task_waited_for_twice_and_by_several(self):
        web = web_of(main("go a giver(1)", "go b waiter(a)", "wait c a", "wait d a") + GIVER + WAITER)
        for path, n, ahead in (((1,), 0, ((), 1)), ((), 2, ((), 1)), ((), 3, ((), 2))):
            self.assertEqual(web.comes_of(path, n), sorted([ahead, ((0,), 0)]))


class Rooms(WebTest):
    def test_base_and_largest(self):
        web = web_of(main(room=7))
        self.assertEqual((web.base(), web.largest()), (7, 7))
        web = web_of(main("call a f()", "go b f()", room=7) + "\nwork f() room 5\n call a g()\nwork g() room 1")
        self.assertEqual((web.base(), web.largest()), (7, 13))
        web = web_of(main())
        self.assertEqual((web.base(), web.largest()), (0, 0))

    def test_base_of_another_work(self):
        web = web_of(main(room=7) + "\nwork f() room 5", name="f")
        self.assertEqual((web.base(), web.largest()), (5, 5))

    def test_as_the_plain_run(self):
        book = read_book(main("call a f(3)", "go b f(2)", room=7) + "\nwork f(n) room 5\n if n\n go a f(n - 1)\n end")
        web, run = Web(book, "main", []), serial(book, "main", [])
        self.assertEqual((web.largest(), len(web)), (run.most, run.count))
        self.assertEqual(sum(node[6] for node in web.nodes()), -web.base())


class Loose(WebTest):
    def test_kept_within(self):
        self.loose(None, main())
        self.loose(None, main("call a giver(1)") + GIVER)
        self.loose(None, main("go a giver(1)", "wait a a") + GIVER)
        self.loose(None, main("go a giver(1)", "go b giver(2)", "wait b b", "wait a a") + GIVER)
        self.loose(None, main("go a giver(1)", "wait b a", "wait c a") + GIVER)
        self.loose(None, main("call a mid()") + GIVER + "\nwork mid() room 0\n go a giver(1)\n wait a a")

    def test_a_failed_task_that_was_waited_for(self):
        self.loose(None, main("go a failer(1)", "wait b a else 2") + FAILER)
        self.loose(None, main("go a failer(1)", "wait b a") + FAILER)
        self.loose(None, main("go a failer(1)", "wait b a else x") + FAILER)

    def test_left(self):
        self.loose(((0,), "left"), main("go a giver(1)") + GIVER)
        self.loose(((0,), "left"), main("go a giver(1)", "give a") + GIVER)
        self.loose(((0,), "left"), main("go a giver(1)", "fail 1", "wait a a") + GIVER)
        self.loose(((0,), "left"), main("go a failer(1)") + FAILER)
        self.loose(((0,), "left"), main("go a giver(1)", "if 0", "wait a a", "end") + GIVER)

    def test_left_though_waited_for_by_others(self):
        self.loose(((0,), "left"), main("go a giver(1)", "call b waiter(a)") + GIVER + WAITER)
        self.loose(((0,), "left"), main("go a giver(1)", "go b waiter(a)", "wait b b") + GIVER + WAITER)
        maker = "\nwork maker() room 0\n go a giver(1)\n give a"
        self.loose(((0,), "left"), main("call a maker()", "wait b a") + GIVER + maker)
        self.loose(((0, 0), "left"), main("go a maker()", "wait b a", "wait c b") + GIVER + maker)

    def test_another_frame_of_the_same_work_is_another(self):
        text = "work main(n, p) room 0\n if n\n go a giver(1)\n call b main(0, a)\n give b\n end\n wait c p\n give c" + GIVER
        self.loose(((0,), "left"), text, 1, 0)

    def test_other(self):
        self.loose(((0,), "other"), main("go a giver(1)", "call b waiter(a)", "wait c a") + GIVER + WAITER)
        self.loose(((0,), "other"), main("go a giver(1)", "wait c a", "call b waiter(a)") + GIVER + WAITER)
        self.loose(((0,), "other"), main("go a giver(1)", "go b waiter(a)", "wait b b", "wait c a") + GIVER + WAITER)
        self.loose(((0,), "other"), main("go a failer(1)", "go b waiter(a)", "wait b b else 1", "wait c a else 1") + FAILER +
                   WAITER)

    def test_a_wait_that_comes_to_no_future_counts_for_nothing(self):
        self.loose(((0,), "left"), main("go a giver(1)", "a = 1", "wait b a") + GIVER)

    def test_the_least_of_several(self):
        self.loose(((1,), "left"), main("go a giver(1)", "wait a a", "go b giver(1)", "go c giver(1)") + GIVER)
        self.loose(((0,), "other"), main("go a giver(1)", "go b giver(2)", "call c waiter(a)", "wait a a") + GIVER + WAITER)
        self.loose(((0,), "left"), main("go a giver(1)", "go b giver(2)", "call c waiter(b)", "wait b b") + GIVER + WAITER)
        outer = "\nwork outer() room 0\n go a giver(1)"
        self.loose(((0, 0), "left"), main("go a outer()", "wait a a", "go b giver(1)") + GIVER + outer)
        self.loose(((0,), "left"), main("go a outer()", "go b giver(1)") + GIVER + outer)

    def test_the_least_as_tuples_go(self):
        rows = ["go a giver(1)", "wait a a"] * 2 + ["go a outer()", "wait a a"] + ["go a giver(1)", "wait a a"] * 7
        text = main(*rows, "go b giver(1)") + GIVER
        self.loose(((2, 1), "left"), text + "\nwork outer() room 0\n go a giver(1)\n wait a a\n go b giver(1)")
        self.loose(((10,), "left"), text + "\nwork outer() room 0\n")


class Told(WebTest):
    TEXT = main("go a giver(1)", "wait b a") + GIVER

    def test_a_told_list_that_is_changed_is_told_again_as_it_was(self):
        web = web_of(self.TEXT)
        nodes = web.nodes()
        before = list(nodes)
        nodes[0] = None
        nodes.append(1)
        self.assertEqual(web.nodes(), before)
        self.assertEqual((len(web), web.loose(), web.largest()), (4, None, 0))
        sources = web.comes_of((), 1)
        sources.clear()
        sources.append(3)
        self.assertEqual(web.comes_of((), 1), [((), 0), ((0,), 0)])
        self.assertIsNot(web.nodes(), web.nodes())
        self.assertIsNot(web.comes_of((), 1), web.comes_of((), 1))

    def test_kinds_of_values(self):
        web = web_of(self.TEXT)
        self.assertIs(type(web.nodes()), list)
        self.assertTrue(all(type(node) is tuple and len(node) == 8 for node in web.nodes()))
        self.assertIs(type(web.comes_of((), 1)), list)
        self.assertTrue(all(type(source) is tuple for source in web.comes_of((), 1)))
        self.assertIs(type(web_of(main("go a giver(1)") + GIVER).loose()), tuple)

    def test_what_is_handed_in_is_not_changed(self):
        book = read_book(main("give n", names="n", room=4))
        args = [5]
        web = Web(book, "main", args)
        self.assertEqual(args, [5])
        args[0] = "x"
        args.append(6)
        self.assertEqual((web.nodes(), web.base(), web.largest()), ([step((), 0, change=-4, ended=True)], 4, 4))
        self.assertEqual(str(book), "work main(n) room 4\n  give n")


class WebRefusals(test_plain.Refusals):
    """The refusals of serial, each of them asked of a web."""

    function = Web

    def test_in_their_order(self):
        for error, name, args in ((Missing, "h", None), (BadArgs, "long", None), (BadArgs, "long", [True]),
                                  (Spent, "long", [1])):
            self.refused(error, name, args, budget=2)


if __name__ == "__main__":
    unittest.main()
