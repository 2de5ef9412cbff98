"""Points 2, 8, 9 and 10: what the plain run of a book gives or fails with, its steps and its room."""

import copy
import inspect
import unittest

from stealhall.errors import BadArgs, Broken, Missing, Spent
from stealhall.forms import Book
from stealhall.plain import BUDGET, Run, got, serial
from stealhall.reading import read_book
from tests.samples import FAILER, GIVER, main, wrong_things

LARGEST = 10 ** 30 - 1

# Works that fail with each number, and those that start, call or wait for them.
FAILING = {
    7: "fail 7",
    0: "fail 0",
    -1: "give x",
    -2: "if f\n end",
    -3: "wait a n",
    -4: f"give {LARGEST} + 1",
    -5: "call a deep(1)",
}
DEEP = "work deep(n) room 0\n call a deep(n + 1)\n give a"


def run_of(text, *args, name="main", budget=BUDGET):
    return serial(read_book(text), name, list(args), budget=budget)


class RunTest(unittest.TestCase):
    def gives(self, worth, text, *args):
        self.assertEqual(run_of(text, *args).result, ("gives", worth), text)

    def fails(self, number, text, *args):
        self.assertEqual(run_of(text, *args).result, ("fails", number), text)

    def takes(self, count, most, text, *args):
        run = run_of(text, *args)
        self.assertEqual((run.count, run.most), (count, most), text)

    def ends(self, text, *told):
        self.assertEqual(run_of(text).ends(), list(told), text)


class Rows(RunTest):
    def test_put(self):
        self.gives(5, main("a = 2", "b = a + 3", "give b"))
        self.gives(3, main("a = 2", "a = a + 1", "give a"))
        self.gives(9, main("n = n * n", "give n", names="n"), -3)

    def test_give_ends_its_frame(self):
        self.gives(1, main("give 1", "give 2"))
        self.gives(1, main("give 1", "fail 2"))

    def test_a_frame_without_a_give(self):
        self.gives(0, main())
        self.gives(0, main("a = 5"))
        self.gives(0, main("call a empty()", "give a", "") + "\nwork empty() room 0")
        self.gives(0, main("go a empty()", "wait a a", "give a") + "\nwork empty() room 0")
        self.gives(0, main("if 0", "give 1", "end"))

    def test_names_that_are_handed(self):
        self.gives(1234, main("give a * 1000 + b * 100 + c * 10 + d", names="a, b, c, d"), 1, 2, 3, 4)
        self.gives(4321, main("give d * 1000 + c * 100 + b * 10 + a", names="a, b, c, d"), 1, 2, 3, 4)
        self.gives(-LARGEST, main("give n", names="n"), -LARGEST)
        self.gives(LARGEST, main("give n", names="n"), LARGEST)
        self.gives(0, main("give n", names="n"), 0)

    def test_if(self):
        text = main("if n", "a = 1", "else", "a = 2", "end", "give a", names="n")
        for number, worth in ((0, 2), (1, 1), (2, 1), (-1, 1), (LARGEST, 1), (-LARGEST, 1)):
            self.gives(worth, text, number)
        text = main("a = 3", "if n", "a = 1", "end", "give a", names="n")
        self.gives(1, text, 5)
        self.gives(3, text, 0)
        text = main("a = 3", "if n", "else", "a = 1", "end", "give a", names="n")
        self.gives(3, text, 5)
        self.gives(1, text, 0)
        self.gives(4, main("if n", "else", "end", "give 4", names="n"), 0)

    def test_ifs_within_one_another(self):
        text = main("a = 0", "if n < 10", "if n < 5", "if n < 2", "a = 1", "else", "a = 2", "end", "else", "a = 3", "end",
                    "else", "if n < 20", "a = 4", "end", "a = a + 5", "end", "give a", names="n")
        for number, worth in ((0, 1), (1, 1), (2, 2), (4, 2), (5, 3), (9, 3), (10, 9), (19, 9), (20, 5)):
            self.gives(worth, text, number)

    def test_call(self):
        self.gives(8, main("call a twice(3)", "give a + 2") + "\nwork twice(n) room 0\n give n * 2")
        self.gives(120, main("call a fac(5)", "give a") +
                   "\nwork fac(n) room 0\n if n < 2\n give 1\n end\n call a fac(n - 1)\n give n * a")

    def test_frames_have_names_of_their_own(self):
        self.gives(1, main("a = 1", "call b other(5)", "give a") + "\nwork other(n) room 0\n a = 7\n give n")
        self.fails(-1, main("a = 1", "call b other(5)", "give b") + "\nwork other(n) room 0\n give a")
        self.fails(-1, main("call b other(5)", "give n") + "\nwork other(n) room 0\n give n")
        self.fails(-1, main("go b other(5)", "give n") + "\nwork other(n) room 0\n give n")
        self.fails(-1, main("call b other(1)", "call b other(0)", "give b") +
                   "\nwork other(n) room 0\n if n\n x = 1\n end\n give x")

    def test_go_and_wait(self):
        self.gives(3, main("go a giver(3)", "wait b a", "give b") + GIVER)
        self.gives(3, main("go a giver(3)", "wait a a", "give a") + GIVER)
        self.gives(7, main("go a giver(3)", "go b giver(4)", "wait b b", "wait a a", "give a + b") + GIVER)
        self.gives(4, main("go a giver(3)", "go a giver(4)", "wait b a", "give b") + GIVER)

    def test_wait_twice(self):
        self.gives(6, main("go a giver(3)", "wait b a", "wait c a", "give b + c") + GIVER)

    def test_fail(self):
        for number in (0, 1, 7, LARGEST):
            self.fails(number, main(f"fail {number}"))
        self.fails(-8, main("fail 0 - 8"))
        self.fails(-1, main("fail 0 - 1"))
        self.fails(7, main("fail n", "give 1", names="n"), 7)

    def test_a_give_within_an_if_within_a_called_frame(self):
        text = main("call a f(n)", "give a + 100", names="n") + "\nwork f(n) room 0\n" + \
            " if n\n  if n < 3\n   give 1\n  else\n   give 2\n  end\n  fail 9\n end\n give 3"
        for number, worth in ((1, 101), (5, 102), (0, 103)):
            self.gives(worth, text, number)


class Operations(RunTest):
    def test_each_sign(self):
        for left, right in ((2, 3), (3, 2), (3, 3), (-3, 3), (-2, -5), (0, 0), (0, 7), (LARGEST, 0), (-LARGEST, LARGEST)):
            worths = {"<": int(left < right), "==": int(left == right)}
            if abs(left) < 10:
                worths.update({"+": left + right, "-": left - right, "*": left * right})
            for sign, worth in worths.items():
                self.gives(worth, main(f"give a {sign} b", names="a, b"), left, right)

    def test_comparisons_come_to_numbers(self):
        for args in ((1, 2), (2, 1), (2, 2)):
            for sign in ("<", "=="):
                self.assertIs(type(got(run_of(main(f"give a {sign} b", names="a, b"), *args).result)), int)

    def test_thirty_figures_and_31(self):
        self.gives(LARGEST, main("give a + b", names="a, b"), LARGEST - 1, 1)
        self.fails(-4, main("give a + b", names="a, b"), LARGEST, 1)
        self.gives(-LARGEST, main("give a - b", names="a, b"), 1 - LARGEST, 1)
        self.fails(-4, main("give a - b", names="a, b"), -LARGEST, 1)
        self.gives(10 ** 29, main("give a * b", names="a, b"), 10 ** 28, 10)
        self.gives(9 * 10 ** 29, main("give a * b", names="a, b"), 9 * 10 ** 28, 10)
        self.fails(-4, main("give a * b", names="a, b"), 10 ** 29, 10)
        self.gives(-9 * 10 ** 29, main("give a * b", names="a, b"), -9 * 10 ** 28, 10)
        self.fails(-4, main("give a * b", names="a, b"), -10 ** 29, 10)
        self.fails(-4, main("give a * b", names="a, b"), LARGEST, LARGEST)
        self.fails(-4, main("give a * b", names="a, b"), LARGEST, -LARGEST)
        self.gives(0, main("give a - b", names="a, b"), LARGEST, LARGEST)

    def test_a_part_that_is_too_great_on_the_way(self):
        self.fails(-4, main("give a + 1 - 1", names="a"), LARGEST)
        self.gives(LARGEST, main("give a - 1 + 1", names="a"), LARGEST)
        self.fails(-4, main("give 0 * (a + 1)", names="a"), LARGEST)
        self.fails(-4, main("give a + 1 < 0", names="a"), LARGEST)

    def test_in_each_place_of_an_expression(self):
        for row in ("b = {}", "go b giver({})", "call b giver({})", "if {}\nend", "give {}", "fail {}"):
            self.fails(-4, main(row.format("n + 1"), names="n") + GIVER, LARGEST)
        self.fails(-4, main("go f failer(1)", "wait b f else n + 1", names="n") + FAILER, LARGEST)


class Futures(RunTest):
    def test_a_future_is_told_by_its_path(self):
        self.gives(("future", (0,)), main("go a giver(3)", "give a") + GIVER)
        self.gives(("future", (1,)), main("go a giver(3)", "go b giver(3)", "give b") + GIVER)

    def test_put_to_a_name(self):
        self.gives(3, main("go a giver(3)", "b = a", "a = 1", "wait c b", "give c") + GIVER)
        self.gives(("future", (0,)), main("go a giver(3)", "b = a", "give b") + GIVER)

    def test_handed_on(self):
        waiter = "\nwork waiter(p) room 0\n wait a p\n give a"
        for word in ("call", "go"):
            end = ["wait b b"] if word == "go" else []
            self.gives(3, main("go a giver(3)", f"{word} b waiter(a)", *end, "give b") + GIVER + waiter)

    def test_given_back(self):
        maker = "\nwork maker(n) room 0\n go a giver(n)\n give a"
        self.gives(5, main("call a maker(5)", "wait a a", "give a") + GIVER + maker)
        self.gives(5, main("go a maker(5)", "wait b a", "wait c b", "give c") + GIVER + maker)
        self.gives(("future", (0, 0)), main("go a maker(5)", "wait b a", "give b") + GIVER + maker)
        self.gives(("future", (0,)), main("call a maker(5)", "give a") + GIVER + maker)

    def test_given_as_a_waits_else(self):
        self.gives(("future", (0,)), main("go a giver(1)", "go b failer(2)", "wait c b else a", "give c") + GIVER + FAILER)

    def test_waited_for_by_several(self):
        waiter = "\nwork waiter(p) room 0\n wait a p\n give a"
        self.gives(9, main("go a giver(3)", "go b waiter(a)", "go c waiter(a)", "wait a a", "wait b b", "wait c c",
                           "give a + b + c") + GIVER + waiter)

    def test_a_future_stands_in_an_operation_an_if_or_a_fail(self):
        for sign in ("+", "-", "*", "<", "=="):
            self.fails(-2, main("go a giver(3)", f"give a {sign} 1") + GIVER)
            self.fails(-2, main("go a giver(3)", f"give 1 {sign} a") + GIVER)
            self.fails(-2, main("go a giver(3)", f"give a {sign} a") + GIVER)
            self.fails(-2, main("go a giver(3)", f"b = 0 * (1 + (a {sign} 1))") + GIVER)
        self.fails(-2, main("go a giver(3)", "if a", "end") + GIVER)
        self.fails(-2, main("go a giver(3)", "fail a") + GIVER)

    def test_a_task_that_is_never_waited_for(self):
        text = main("go a failer(3)", "go b giver(4)", "give 5") + GIVER + FAILER
        self.gives(5, text)
        self.ends(text, ((), ("gives", 5)), ((0,), ("fails", 3)), ((1,), ("gives", 4)))


class Failures(RunTest):
    def test_a_name_that_stands_for_nothing(self):
        for row in ("b = a", "go b giver(a)", "call b giver(a)", "if a\nend", "give a", "fail a", "wait b a", "wait a a",
                    "wait b a else 3", "give a + 1", "give 1 + a"):
            self.fails(-1, main(row) + GIVER)
        self.fails(-1, main("go f failer(1)", "wait b f else a") + FAILER)

    def test_a_wait_for_a_number(self):
        for row in ("wait b n", "wait n n", "wait b n else 3", "wait b n else x"):
            self.fails(-3, main(row, names="n"), 5)
        self.fails(-3, main("go a giver(3)", "wait a a", "wait a a") + GIVER)

    def test_a_failed_future_without_an_expression(self):
        for number in (7, 0, LARGEST):
            self.fails(number, main(f"go a failer({number})", "wait b a", "give 1") + FAILER)
        self.fails(-7, main("go a failer(0 - 7)", "wait b a", "give 1") + FAILER)

    def test_a_failed_future_with_an_expression(self):
        self.gives(4, main("go a failer(7)", "wait b a else 4", "give b") + FAILER)
        self.gives(12, main("c = 5", "go a failer(7)", "wait b a else c + 7", "give b") + FAILER)

    def test_a_waits_expression_is_reckoned_only_then(self):
        self.gives(3, main("go a giver(3)", "wait b a else x", "give b") + GIVER)
        self.gives(3, main("go a giver(3)", "wait b a else a + 1", "give b") + GIVER)
        self.fails(-1, main("go a failer(3)", "wait b a else x", "give b") + FAILER)
        self.fails(-2, main("go a failer(3)", "wait b a else a + 1", "give b") + FAILER)
        self.fails(-4, main("go a failer(3)", f"wait b a else {LARGEST} + 1", "give b") + FAILER)

    def test_a_failed_future_twice_and_by_several(self):
        self.gives(5, main("go a failer(7)", "wait b a else 2", "wait c a else 3", "give b + c") + FAILER)
        self.fails(7, main("go a failer(7)", "wait b a else 2", "wait c a", "give 1") + FAILER)
        waiter = "\nwork waiter(p) room 0\n wait a p\n give a"
        text = main("go a failer(7)", "go b waiter(a)", "go c waiter(a)", "wait a a else 1", "wait b b else 2",
                    "wait c c else 3", "give a + b + c") + FAILER + waiter
        self.gives(6, text)
        self.ends(text, ((), ("gives", 6)), ((0,), ("fails", 7)), ((1,), ("fails", 7)), ((2,), ("fails", 7)))

    def test_each_number_in_each_kind_of_frame(self):
        for number, row in FAILING.items():
            failing = f"work bad(n) room 0\n go f giver(1)\n {row}\n give 1" + GIVER + "\n" + DEEP + "\n"
            self.fails(number, failing.replace("bad", "main"), 5)
            for start, waits in (("call", []), ("go", ["wait a a"])):
                self.fails(number, failing + main(f"{start} a bad(5)", *waits, "give 2"))
                self.fails(number, failing + main("call a mid()", "give 3") +
                           "\nwork mid() room 0\n" + "\n".join([f"{start} a bad(5)", *waits, "give 2"]))
            self.gives(2, failing + main("go a bad(5)", "give 2"))
            self.gives(4, failing + main("go a bad(5)", "wait b a else 4", "give b"))
            ends = run_of(failing + main("go a bad(5)", "give 2")).ends()
            self.assertEqual(dict(ends)[(0,)], ("fails", number))

    def test_a_failure_ends_all_frames_of_its_task_and_no_others(self):
        text = main("go a outer()", "wait b a else 1", "c = b + 1", "give c") + \
            "\nwork outer() room 0\n call a inner()\n give 8\nwork inner() room 0\n fail 9\n give 7"
        self.gives(2, text)
        self.ends(text, ((), ("gives", 2)), ((0,), ("fails", 9)))

    def test_a_row_behind_a_failing_one_is_not_done(self):
        text = main("a = x", "go b giver(1)", "give 1") + GIVER
        self.ends(text, ((), ("fails", -1)))
        self.assertEqual(run_of(text).count, 1)


class WhichFirst(RunTest):
    def test_from_the_left(self):
        self.fails(-1, main("give x + (n + 1)", names="n"), LARGEST)
        self.fails(-4, main("give n + 1 + x", names="n"), LARGEST)
        self.fails(-4, main("give (n + 1) * x", names="n"), LARGEST)
        self.fails(-2, main("go a giver(1)", "give (a + 1) * x") + GIVER)
        self.fails(-1, main("go a giver(1)", "give x * (a + 1)") + GIVER)

    def test_both_parts_ahead_of_the_operation(self):
        self.fails(-1, main("go a giver(1)", "give a + x") + GIVER)
        self.fails(-1, main("go a giver(1)", "give x + a") + GIVER)
        self.fails(-4, main("go a giver(1)", f"give a + ({LARGEST} + 1)") + GIVER)
        self.fails(-2, main("go a giver(1)", f"give a + {LARGEST}") + GIVER)
        self.fails(-2, main("go a giver(1)", "give a == (a < 1)") + GIVER)

    def test_expressions_of_a_go_or_call_from_the_left(self):
        two = "\nwork two(a, b) room 0"
        for word in ("go", "call"):
            self.fails(-1, main(f"{word} a two(x, {LARGEST} + 1)") + two)
            self.fails(-4, main(f"{word} a two({LARGEST} + 1, x)") + two)

    def test_expressions_of_a_go_or_call_ahead_of_the_depth(self):
        for word in ("go", "call"):
            for tree, number in (("x", -1), (f"{LARGEST} + 1", -4), ("n", -5)):
                text = f"work main(n) room 0\n if n == 30\n {word} a main({tree})\n end\n call a main(n + 1)\n give a"
                self.fails(number, text, 1)
            text = f"work main(n) room 0\n if n == 29\n go f main(n + 1)\n {word} a main(f * 2)\n end\n if n == 30\n" + \
                " give 0\n end\n call a main(n + 1)\n give a"
            self.fails(-2, text, 1)

    def test_a_wait_looks_at_its_name_ahead_of_its_expression(self):
        self.fails(-1, main("wait a b else 1 + 1"))
        self.fails(-3, main("wait a n else x", names="n"), 3)


class Depth(RunTest):
    CALLS = "work main(n) room 1\n if n < 2\n give 1\n end\n call a main(n - 1)\n give a + 1"
    GOES = "work main(n) room 1\n if n < 2\n give 1\n end\n go a main(n - 1)\n wait a a\n give a + 1"
    BOTH = ("work main(n) room 1\n if n < 2\n give 1\n end\n call a other(n - 1)\n give a + 1\n"
            "work other(n) room 1\n if n < 2\n give 1\n end\n go a main(n - 1)\n wait a a\n give a + 1")

    def test_thirty_deep_and_one_deeper(self):
        for text in (self.CALLS, self.GOES, self.BOTH):
            for depth in (1, 2, 29, 30):
                self.gives(depth, text, depth)
                self.assertEqual(run_of(text, depth).most, depth)
            for depth in (31, 32, 100):
                self.fails(-5, text, depth)
                self.assertEqual(run_of(text, depth).most, 30)

    def test_a_frame_that_ended_leaves_its_depth_behind(self):
        text = "work main() room 0\n call a down(29)\n call b down(29)\n go c down(29)\n wait c c\n give a + b + c\n" + \
            self.CALLS.replace("main", "down")
        self.gives(87, text)

    def test_a_task_that_is_too_deep_fails_alone(self):
        text = self.GOES.replace("wait a a\n", "wait a a else 100\n")
        self.gives(129, text, 31)


class Paths(RunTest):
    def test_goes_over_all_frames_of_a_task(self):
        text = main("go a giver(1)", "call b mid()", "go c giver(3)", "give c") + GIVER + \
            "\nwork mid() room 0\n go a giver(2)\n call b last()\n go c giver(5)\n give 0" + \
            "\nwork last() room 0\n go a giver(4)\n give 0"
        self.gives(("future", (4,)), text)
        self.ends(text, ((), ("gives", ("future", (4,)))), ((0,), ("gives", 1)), ((1,), ("gives", 2)),
                  ((2,), ("gives", 4)), ((3,), ("gives", 5)), ((4,), ("gives", 3)))

    def test_goes_of_started_tasks(self):
        text = "work main(n) room 0\n if n\n go a main(n - 1)\n go b main(n - 1)\n end\n give n"
        ends = run_of(text, 2).ends()
        self.assertEqual(ends, [((), ("gives", 2)), ((0,), ("gives", 1)), ((0, 0), ("gives", 0)), ((0, 1), ("gives", 0)),
                                ((1,), ("gives", 1)), ((1, 0), ("gives", 0)), ((1, 1), ("gives", 0))])

    def test_a_go_that_fails_starts_none(self):
        self.ends(main("go a giver(1)", "go b giver(x)") + GIVER, ((), ("fails", -1)), ((0,), ("gives", 1)))

    def test_ends_are_sorted_as_tuples_go(self):
        rows = [f"go a giver({number})" for number in range(12)]
        self.assertEqual([path for path, _ in run_of(main(*rows) + GIVER).ends()], [()] + [(at,) for at in range(12)])


class StepsAndRoom(RunTest):
    def test_rows_are_steps(self):
        self.takes(1, 0, main())
        self.takes(1, 0, main("give 1"))
        self.takes(2, 0, main("a = 1"))
        self.takes(3, 0, main("a = 1", "b = 2", "give a", "give b"))
        self.takes(1, 0, main("fail 1", "give 1"))
        self.takes(2, 0, main("a = 1", "give x"))

    def test_ifs_are_steps_and_jumps_are_none(self):
        self.takes(2, 0, main("if 1", "end"))
        self.takes(2, 0, main("if 0", "end"))
        text = main("if n", "a = 1", "else", "a = 1", "b = 1", "end", "give 1", names="n")
        self.takes(3, 0, text, 1)
        self.takes(4, 0, text, 0)
        nested = main("if n", "if n", "if n", "a = 1", "else", "a = 2", "end", "else", "a = 3", "end", "else", "a = 4",
                      "end", names="n")
        self.takes(5, 0, nested, 1)
        self.takes(3, 0, nested, 0)

    def test_goes_and_calls(self):
        self.takes(3, 0, main("call a empty()") + "\nwork empty() room 0")
        self.takes(3, 0, main("go a empty()") + "\nwork empty() room 0")
        self.takes(4, 0, main("go a empty()", "wait a a") + "\nwork empty() room 0")
        self.takes(6, 0, main("go a giver(1)", "wait a a", "call a giver(1)") + GIVER)

    def test_a_step_at_which_a_task_fails_is_one(self):
        self.takes(4, 0, main("go a failer(1)", "wait b a else 2") + FAILER)
        self.takes(3, 0, main("go a failer(1)", "wait b a") + FAILER)
        self.takes(2, 0, main("call a failer(1)", "give 1") + FAILER)

    def test_room(self):
        self.takes(1, 7, main(room=7))
        self.takes(1, 1000, main(room=1000))
        self.takes(1, 0, main(room=0))
        other = "\nwork other(n) room 5\n if n\n call a other(n - 1)\n end"
        for word in ("call", "go"):
            self.assertEqual(run_of(main(f"{word} a other(0)", room=7) + other).most, 12)
            self.assertEqual(run_of(main(f"{word} a other(0)", f"{word} a other(0)", room=7) + other).most, 12)
            self.assertEqual(run_of(main(f"{word} a other(2)", room=7) + other).most, 22)
            self.assertEqual(run_of(main(f"{word} a other(0)", room=0) + other).most, 5)

    def test_room_of_frames_that_end_by_failing(self):
        text = main("go a outer()", "go b outer()", "call c leaf()", room=1) + \
            "\nwork outer() room 10\n call a inner()\nwork inner() room 100\n fail 1\nwork leaf() room 50"
        self.assertEqual(run_of(text).most, 111)
        text = main("go a outer()", "call c leaf()", room=1) + \
            "\nwork outer() room 10\n call a inner()\nwork inner() room 20\n fail 1\nwork leaf() room 50"
        self.assertEqual(run_of(text).most, 51)

    def test_a_go_is_done_to_its_end_ahead_of_all_else(self):
        text = main("go a wide(1)", "go b wide(1)", "call c wide(0)", room=1) + \
            "\nwork wide(n) room 10\n if n\n call a narrow()\n end\nwork narrow() room 3"
        self.takes(14, 14, text)

    def test_most_is_looked_at_at_the_beginning_too(self):
        self.takes(1, 9, main("fail 1", room=9))


class Told(RunTest):
    def test_a_told_list_that_is_changed_is_told_again_as_it_was(self):
        run = run_of(main("go a giver(3)", "give 4") + GIVER)
        told = run.ends()
        self.assertIsInstance(told, list)
        told.append(((9,), ("gives", 9)))
        told[0] = None
        self.assertEqual(run.ends(), [((), ("gives", 4)), ((0,), ("gives", 3))])
        before = run.ends()
        run.ends().clear()
        self.assertEqual(before, [((), ("gives", 4)), ((0,), ("gives", 3))])
        self.assertIsNot(run.ends(), run.ends())

    def test_kinds_of_values(self):
        run = run_of(main("go a giver(3)", "give a") + GIVER)
        self.assertIsInstance(run, Run)
        self.assertIs(type(run.result), tuple)
        self.assertIs(type(run.count), int)
        self.assertIs(type(run.most), int)
        for path, result in run.ends():
            self.assertIs(type(path), tuple)
            self.assertIs(type(result), tuple)

    def test_two_runs_have_nothing_in_common(self):
        book = read_book(main("go a giver(n)", "wait a a", "give a", names="n") + GIVER)
        one, other = serial(book, "main", [1]), serial(book, "main", [2])
        self.assertEqual((one.result, other.result), (("gives", 1), ("gives", 2)))
        self.assertEqual(dict(one.ends())[(0,)], ("gives", 1))

    def test_what_is_handed_in_is_not_changed(self):
        book = read_book(main("n = n + 1", "give n", names="n"))
        text, args = str(book), [5]
        run = serial(book, "main", args)
        self.assertEqual((args, str(book)), ([5], text))
        args[0] = 9
        args.append(1)
        self.assertEqual((run.result, run.ends()), (("gives", 6), [((), ("gives", 6))]))

    def test_any_work_may_be_run(self):
        book = read_book(main() + GIVER + FAILER)
        self.assertEqual(serial(book, "giver", [4]).result, ("gives", 4))
        self.assertEqual(serial(book, "failer", [4]).result, ("fails", 4))


class Refusals(unittest.TestCase):
    # Each of these is tested for the web too, in test_web.
    function = staticmethod(serial)

    def setUp(self):
        self.book = read_book("work f(a, b) room 0\n give a + b\nwork g() room 0\nwork long(n) room 0\n" +
                              " a = 1\n" * 9)

    def refused(self, error, *args, **more):
        before = copy.deepcopy(args[1:])
        with self.assertRaises(error) as caught:
            self.function(self.book, *args, **more)
        self.assertEqual(repr(args[1:]), repr(before))
        return caught.exception

    def test_missing(self):
        for name in ("h", "", "F", "ff", "work", "f g", "f ", "a text\nof lines", "z" * 10000):
            for args in ([], [1, 2], None, True, "", [True]):
                for budget in (1, 400):
                    self.assertEqual(self.refused(Missing, name, args, budget=budget).name, name)
        self.assertEqual(self.refused(Missing, "x", [1]).name, "x")

    def test_args_that_are_none(self):
        wrong = [None, True, False, 0, 1, "", "ab", "12", (), (1, 2), ((1, 2),), {"a": 1, "b": 2}, [], [1], [1, 2, 3],
                 [1, 2, None], [True, 1], [1, True], [False, False], [1, "2"], ["1", "2"], [None, 1], [1, None], [[1], [2]],
                 [(1,), 2], [1, [2]], [[1, 2]], [10 ** 30, 0], [0, 10 ** 30], [-10 ** 30, 0], [0, -10 ** 30],
                 [10 ** 40 - 1, 1], [0, 1 - 10 ** 40], [0] * 90000, [1, ("number", 2)], "f", b"ab"]
        for args in wrong + wrong_things():
            for budget in (1, 400):
                self.refused(BadArgs, "f", args, budget=budget)
        for args in (None, (), "", 0, False, [0], [None], [[]], [""], {}):
            self.refused(BadArgs, "g", args)

    def test_numbers_that_are_let_by(self):
        for args in ([1, 2], [0, 0], [-1, -2], [LARGEST, 0], [0, -LARGEST], [-LARGEST, LARGEST]):
            self.function(self.book, "f", args)
        self.function(self.book, "g", [])

    def test_budgets(self):
        for budget in (10, 11, 400, 2000):
            self.function(self.book, "long", [1], budget=budget)
        for budget in (1, 2, 9):
            self.assertEqual(self.refused(Spent, "long", [1], budget=budget).steps, budget)
        self.function(self.book, "g", [], budget=1)

    def test_a_budget_of_just_the_steps(self):
        for steps in (41, 401, 2000):
            book, name = book_of_steps(steps)
            self.function(book, name, [], budget=steps)
            with self.assertRaises(Spent) as caught:
                self.function(book, name, [], budget=steps - 1)
            self.assertEqual(caught.exception.steps, steps - 1)

    def test_no_budget_told(self):
        self.assertEqual(BUDGET, 400)
        self.assertEqual(inspect.signature(self.function).parameters["budget"].default, 400)
        book, name = book_of_steps(400)
        self.function(book, name, [])
        book, name = book_of_steps(401)
        with self.assertRaises(Spent) as caught:
            self.function(book, name, [])
        self.assertEqual(caught.exception.steps, 400)

    def test_the_budget_counts_the_steps_of_all_tasks(self):
        book = read_book(main("go a giver(1)", "call b giver(1)", "wait a a") + GIVER)
        self.function(book, "main", [], budget=6)
        with self.assertRaises(Spent):
            self.function(book, "main", [], budget=5)

    def test_a_run_without_an_end_in_sight(self):
        # All of its frames together would take more than a thousand million steps.
        book = read_book("work f(n) room 0\n if n == 30\n  give 1\n end\n call a f(n + 1)\n call b f(n + 1)\n give a + b")
        for budget in (1, 400, 2000):
            with self.assertRaises(Spent) as caught:
                self.function(book, "f", [1], budget=budget)
            self.assertEqual(caught.exception.steps, budget)

    def test_a_spent_run_leaves_the_book_as_it_is(self):
        text = str(self.book)
        self.refused(Spent, "long", [1], budget=3)
        self.assertEqual(str(self.book), text)
        self.function(self.book, "long", [1])

    def test_a_book_without_works(self):
        with self.assertRaises(Missing):
            self.function(Book([]), "f", [])


def book_of_steps(steps):
    """A book with a work whose run takes just so many steps, by calls that take many and puts that take one."""
    groups, rest = divmod(steps - 1, 1640)
    fulls, puts = divmod(rest, 42)
    top = [" call a group()"] * groups + [" call a full()"] * fulls + [" a = 1"] * puts
    group = [" call a full()"] * 39
    full = [" a = 1"] * 40
    lines = ["work top() room 0", *top, "work group() room 0", *group, "work full() room 0", *full]
    return read_book("\n".join(lines)), "top"


class Got(unittest.TestCase):
    def test_what_is_given(self):
        for worth in (0, 1, -1, LARGEST, -LARGEST, ("future", ()), ("future", (0,)), ("future", (3, 0, 12))):
            self.assertEqual(got(("gives", worth)), worth)

    def test_what_fails(self):
        for number in (0, 1, -1, -2, -3, -4, -5, 7, LARGEST, -LARGEST):
            with self.assertRaises(Broken) as caught:
                got(("fails", number))
            self.assertEqual(caught.exception.number, number)

    def test_of_runs(self):
        self.assertEqual(got(run_of(main("give 5")).result), 5)
        self.assertEqual(got(run_of(main("go a giver(1)", "give a") + GIVER).result), ("future", (0,)))
        with self.assertRaises(Broken) as caught:
            got(run_of(main("give x")).result)
        self.assertEqual(caught.exception.number, -1)


if __name__ == "__main__":
    unittest.main()
