"""Points 2 and 14: levels, longest chains and the height of a run."""

import unittest

from stealhall.chains import height, levels, longest
from tests.halls import SLOW, WAITER
from tests.samples import FAILER, GIVER, main
from tests.test_web import web_of

NEST = "\nwork nest(n) room 0\n if n\n go a nest(n - 1)\n end"
WIDE = "\nwork wide() room 0\n go a giver(1)\n go b giver(2)"
FIB = "\n".join(["work fib(n) room 3", "if n < 2", "give n", "end", "go a fib(n - 1)", "call b fib(n - 2)", "wait a a",
                 "give a + b"])


class Levels(unittest.TestCase):
    def has(self, numbers, text, *args):
        web = web_of(text, *args)
        self.assertEqual(levels(web), numbers, text)
        self.assertEqual([type(number) for number in levels(web)], [int] * len(web))

    def test_one_task(self):
        self.has([1], main())
        self.has([1], main("fail 3"))
        self.has([1, 2, 3], main("a = 1", "b = 2"))
        self.has([1, 2, 3, 4], main("a = 1", "call b giver(1)", "give b") + GIVER)

    def test_a_go(self):
        self.has([1, 2, 2], main("go a giver(1)") + GIVER)
        self.has([1, 2, 2, 3, 3], main("go a giver(1)", "go b giver(1)") + GIVER)
        self.has([1, 2, 3, 2, 3, 4], main("go a slow()", "b = 1", "b = 2") + SLOW)

    def test_a_wait(self):
        self.has([1, 2, 3, 4], main("go a giver(1)", "wait b a") + GIVER)
        self.has([1, 2, 3, 4, 5], main("go a slow()", "wait b a") + SLOW)

    def test_a_wait_whose_future_ended_long_ahead(self):
        self.has([1, 2, 2, 3, 4, 5, 6], main("go a giver(1)", "b = 1", "b = 2", "b = 3", "wait b a") + GIVER)

    def test_a_wait_whose_future_ended_just_ahead(self):
        self.has([1, 2, 3, 2, 3, 4, 5], main("go a slow()", "b = 1", "b = 2", "wait b a") + SLOW)
        self.has([1, 2, 3, 2, 4, 5], main("go a slow()", "b = 1", "wait b a") + SLOW)

    def test_a_wait_that_fails(self):
        self.has([1, 2, 3], main("go a failer(1)", "wait b a") + FAILER)
        self.has([1, 2, 3], main("go a failer(1)", "wait b a else x") + FAILER)

    def test_a_wait_in_another_task(self):
        self.has([1, 2, 3, 2, 4, 5, 3], main("go a slow()", "go b waiter(a)") + SLOW + WAITER)

    def test_two_waits_for_one(self):
        self.has([1, 2, 3, 4, 5, 6], main("go a slow()", "wait b a", "wait c a") + SLOW)

    def test_each_number_stands_where_its_step_does(self):
        web = web_of(FIB, 5, name="fib")
        found = dict(zip([node[:2] for node in web.nodes()], levels(web)))
        self.assertEqual(len(levels(web)), len(web))
        for step in found:
            sources = web.comes_of(*step)
            self.assertEqual(found[step], 1 + max([found[source] for source in sources], default=0))

    def test_a_changed_list_is_told_again(self):
        web = web_of(main("go a giver(1)") + GIVER)
        told = levels(web)
        told.append(7)
        told[0] = 9
        self.assertEqual(levels(web), [1, 2, 2])
        self.assertEqual(web.nodes(), web_of(main("go a giver(1)") + GIVER).nodes())


class Longest(unittest.TestCase):
    def is_longest(self, text, *args, name="main"):
        web = web_of(text, *args, name=name)
        chain = longest(web)
        self.assertIsInstance(chain, list)
        self.assertEqual(len(chain), max(levels(web)), text)
        self.assertEqual(web.comes_of(*chain[0]), [])
        for ahead, step in zip(chain, chain[1:]):
            self.assertIn(ahead, web.comes_of(*step), text)

    def test_only_one_chain(self):
        self.assertEqual(longest(web_of(main())), [((), 0)])
        self.assertEqual(longest(web_of(main("a = 1"))), [((), 0), ((), 1)])
        self.assertEqual(longest(web_of(main("go a slow()", "wait b a") + SLOW)),
                         [((), 0), ((0,), 0), ((0,), 1), ((), 1), ((), 2)])
        self.assertEqual(longest(web_of(main("go a slow()") + SLOW)), [((), 0), ((0,), 0), ((0,), 1)])
        self.assertEqual(longest(web_of(main("go a slow()", "b = 1", "b = 1", "wait b a") + SLOW))[-2:],
                         [((), 3), ((), 4)])

    def test_chains_of_many_runs(self):
        for text in (main("go a giver(1)") + GIVER, main("go a giver(1)", "go b giver(1)", "wait a a") + GIVER,
                     main("go a slow()", "go b waiter(a)", "wait c b") + SLOW + WAITER,
                     main("go a slow()", "b = 1", "b = 2", "wait b a") + SLOW, main("go a nest(6)") + NEST):
            self.is_longest(text)
        for number in range(7):
            self.is_longest(FIB, number, name="fib")

    def test_a_changed_list_is_told_again(self):
        web = web_of(main("a = 1"))
        longest(web).clear()
        self.assertEqual(longest(web), [((), 0), ((), 1)])


class Height(unittest.TestCase):
    def has(self, number, text, *args):
        self.assertEqual(height(web_of(text, *args)), number, text)

    def test_without_a_go(self):
        self.has(0, main())
        self.has(0, main("a = 1", "call b giver(1)") + GIVER)
        self.has(0, main("go a giver(x)") + GIVER)

    def test_side_by_side(self):
        self.has(1, main("go a giver(1)") + GIVER)
        self.has(2, main("go a giver(1)", "go b giver(1)") + GIVER)
        self.has(4, main("go a giver(1)", "go b giver(1)", "go c giver(1)", "go d giver(1)") + GIVER)

    def test_within_one_another(self):
        for many in (1, 2, 7, 28):
            self.has(many + 1, main(f"go a nest({many})") + NEST)

    def test_of_several_chains_the_one_with_the_most_counts(self):
        self.has(3, main("go a wide()", "go b giver(1)") + WIDE + GIVER)
        self.has(4, main("go a wide()", "wait b a", "go b giver(1)") + WIDE + GIVER)
        self.has(3, main("go b giver(1)", "go a giver(1)", "wait b a", "go b giver(1)") + GIVER)

    def test_goes_of_called_frames(self):
        self.has(4, main("call a wide()", "call a wide()") + WIDE + GIVER)

    def test_more_goes_on_a_chain_that_is_not_longest(self):
        idle = "\nwork idle() room 0\n" + "\n".join(["x = 1"] * 9)
        self.has(3, main("go a idle()", "go b giver(1)", "go b giver(1)") + GIVER + idle)


if __name__ == "__main__":
    unittest.main()
