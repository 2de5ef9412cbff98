"""Points 2 and 21 (with 13, 14, 16, 17 and 18): what the looker lets by, and what it doesn't."""

import collections
import itertools
import random
import unittest

from stealhall.chains import levels, longest
from stealhall.forms import Book
from stealhall.hall import Hall
from stealhall.looker import chain_holds, levels_hold, log_holds, loose_holds
from stealhall.plain import serial
from stealhall.reading import read_book
from stealhall.weaving import run_out, weave
from stealhall.web import Web
from tests import model
from tests.hall_model import HallModel, could_be_log
from tests.halls import SLOW, WAITER, hall_of, happening, random_turns
from tests.samples import FAILER, GIVER, main, with_part, wrong_things
from tests.test_beside_model import BUDGET
from tests.test_halls_beside_model import limits_for, runs_within
from tests.test_web import web_of

TEXT = main("go a slow()", "go b waiter(a)", "call d starter()", "wait b b", "give b + d", room=1) + \
    SLOW.replace("room 0", "room 2") + WAITER + "\nwork starter() room 1\n go a slow()\n wait b a\n give b"
SMALL = main("go a slow()", "wait b a", room=1) + SLOW

NO_WORKERS = [0, 9, -1, True, False, None, "2", (2,), [2]] + wrong_things()
NO_LIMITS = [-1, 10 ** 9 + 1, True, False, "5", (), [3]] + wrong_things()


def listed(thing):
    """The thing with lists for all tuples in it."""
    return [listed(part) for part in thing] if isinstance(thing, tuple) else thing


def truthful(thing):
    """The thing with truths for each 0 and 1 in it."""
    if isinstance(thing, tuple):
        return tuple(truthful(part) for part in thing)
    return bool(thing) if thing in (0, 1) else thing


def log_of(*texts):
    return [happening(text) for text in texts]


class LookerTest(unittest.TestCase):
    def holds(self, function, *args):
        self.assertIs(function(*args), True, args[1:])

    def fails(self, function, *args):
        self.assertIs(function(*args), False, args[1:])


class Logs(LookerTest):
    def halls(self):
        """Halls of one run with several workers and limits, each done, with what it has and what it told."""
        chance = random.Random(4)
        for workers, limit in itertools.product((1, 2, 3, 8), (None, 0, 3, 5, 10 ** 9)):
            for _ in range(3):
                hall = hall_of(TEXT, workers=workers, limit=limit)
                weave(hall, list(itertools.islice(random_turns(chance, workers), 30)))
                run_out(hall)
                yield workers, limit, hall.log()

    def test_logs_of_halls_and_their_beginnings(self):
        web = web_of(TEXT)
        words = set()
        for workers, limit, log in self.halls():
            for many in range(len(log) + 1):
                self.holds(log_holds, web, workers, limit, log[:many])
            words.update(entry[1] for entry in log)
        self.assertEqual(words, {"step", "park", "aside", "lift", "steal", "rest"})

    def test_no_entries(self):
        for workers, limit in itertools.product(range(1, 9), (None, 0, 7, 10 ** 9)):
            self.holds(log_holds, web_of(SMALL), workers, limit, [])

    def test_turns_of_a_hall_that_is_done(self):
        web, log = web_of(main()), log_of("0 step . 0")
        for more in log_of("0 rest - -", "1 rest - -", "0 rest - 1", "1 rest - 0"):
            log.append(more)
            self.holds(log_holds, web, 2, None, log)
        for more in log_of("0 step . 0", "0 step . 1", "1 steal . 0", "0 lift . -", "0 rest - 0", "0 rest - 2", "2 rest - -"):
            self.fails(log_holds, web, 2, None, log + [more])

    def test_written_out(self):
        web = web_of(SMALL)
        log = log_of("0 step . 0", "1 steal . 0", "1 park . 0", "1 rest - -", "0 step 0 0", "1 rest - 0", "0 step 0 1",
                     "0 step . 1", "0 step . 2")
        self.holds(log_holds, web, 2, None, log)
        for at, wrong in ((0, "1 step . 0"), (0, "0 step . 1"), (0, "0 step 0 0"), (1, "1 steal . 1"), (1, "1 steal 0 0"),
                          (1, "1 rest - -"), (1, "1 rest - 0"), (1, "1 lift . -"), (2, "1 step . 1"), (2, "1 park . ."),
                          (2, "1 park 0 0"), (2, "1 aside . -"), (3, "1 steal . 0"), (3, "1 lift . -"), (4, "0 step 0 1"),
                          (6, "0 step . 1"), (7, "0 park . 0"), (7, "1 step . 1"), (8, "0 rest - -")):
            self.fails(log_holds, web, 2, None, log[:at] + [happening(wrong)])

    def test_left_out_twice_and_changed_about(self):
        web = web_of(SMALL)
        log = log_of("0 step . 0", "1 steal . 0", "1 park . 0", "0 step 0 0", "0 step 0 1", "0 step . 1", "0 step . 2")
        self.holds(log_holds, web, 2, None, log)
        for at in range(len(log) - 1):
            self.fails(log_holds, web, 2, None, log[:at] + log[at + 1:])
        for at in range(len(log)):
            self.fails(log_holds, web, 2, None, log[:at + 1] + log[at:])
        # Only what worker 1 parks and what worker 0 does meanwhile can be changed about.
        for at in range(len(log) - 1):
            turned = log[:at] + [log[at + 1], log[at]] + log[at + 2:]
            self.assertIs(log_holds(web, 2, None, turned), at == 2, at)

    def test_each_part_changed(self):
        web = web_of(TEXT)
        others = ([0, 1, 2, 3, -1, None, "0", True, False, (), (0,)], ["step", "park", "aside", "lift", "steal", "rest", "",
                  None, "Step", 0], [(), (0,), (1,), (0, 0), None, [], "", 0, (True,), (False,), ((),)],
                  [0, 1, 2, 5, -1, None, (), (0,), (1,), True, False, "", [], (0, 0)])
        told = model.Model([read_book(TEXT).tree(name) for name in read_book(TEXT).names()], "main", [])
        for workers, limit in ((2, None), (3, 0), (3, 5)):
            hall, wanted = hall_of(TEXT, workers=workers, limit=limit), HallModel(told, workers, limit)
            run_out(hall)
            log = hall.log()
            for at, entry in enumerate(log):
                for place, things in enumerate(others):
                    for changed in [with_part(entry, place, thing) for thing in things]:
                        # Another worker may have been able to do the same, and a rest may tell another victim.
                        could = wanted.could_happen(changed) is not None
                        self.assertIs(log_holds(web, workers, limit, log[:at] + [changed]), could, changed)
                        self.assertFalse(could and entry[1] in ("step", "park", "aside") and changed != entry)
                wanted = wanted.could_happen(entry)

    def test_kinds(self):
        web = web_of(SMALL)
        log = log_of("0 step . 0", "1 steal . 0", "1 park . 0", "1 rest - 0", "0 step 0 0", "0 step 0 1", "0 step . 1")
        self.holds(log_holds, web, 2, None, log)
        self.fails(log_holds, web, 2, None, tuple(log))
        for at, entry in enumerate(log):
            for wrong in (listed(entry), list(entry), truthful(entry), entry + (None,), entry[:3], (entry,), [entry]):
                self.fails(log_holds, web, 2, None, log[:at] + [wrong] + log[at + 1:])
            for place, part in enumerate(entry):
                for wrong in (listed(part), truthful(part)):
                    if repr(wrong) != repr(part):
                        self.fails(log_holds, web, 2, None, log[:at] + [with_part(entry, place, wrong)] + log[at + 1:])

    def test_any_thing(self):
        web = web_of(SMALL)
        for thing in [None, 0, True, "", "0 step . 0", (), {}] + wrong_things():
            if thing != []:
                self.fails(log_holds, web, 2, None, thing)
            self.fails(log_holds, web, 2, None, [thing])
            self.fails(log_holds, web, 2, None, [(0, "step", (), 0), thing])
            for place in range(4):
                self.fails(log_holds, web, 2, None, [with_part((1, "step", (9,), 9), place, thing)])

    def test_another_many_of_workers(self):
        web = web_of(SMALL)
        log = log_of("0 step . 0", "1 steal . 0", "2 rest - -")
        for workers in range(1, 9):
            self.assertIs(log_holds(web, workers, None, log), workers >= 3)
        # From the next worker's on and round: which lane is robbed hangs on how many there are, but any can be told.
        self.holds(log_holds, web, 4, None, log_of("0 step . 0", "2 steal . 0"))

    def test_another_limit(self):
        text = main("go a slow()", "go b slow()", room=2) + SLOW.replace("room 0", "room 3")
        web = web_of(text)
        put_aside, gone_on = log_of("0 step . 0", "1 steal . 0", "1 aside . -"), log_of("0 step . 0", "1 steal . 0", "1 step . 1")
        for limit in (None, 0, 4, 7, 8, 9, 10 ** 9):
            self.assertIs(log_holds(web, 2, limit, put_aside), limit in (0, 4, 7), limit)
            self.assertIs(log_holds(web, 2, limit, gone_on), limit not in (0, 4, 7), limit)

    def test_another_web(self):
        log = log_of("0 step . 0", "0 step 0 0", "0 step 0 1", "0 step . 1", "0 step . 2")
        self.holds(log_holds, web_of(SMALL), 2, None, log)
        for text in (main("go a slow()", room=1) + SLOW, main("go a giver(1)", "wait b a") + GIVER, main("x = 1"), main()):
            self.fails(log_holds, web_of(text), 2, None, log)
        # Of another book whose run has the same steps it is the log as well.
        self.holds(log_holds, web_of(main("go c slow()", "wait d c", room=9) + SLOW), 2, None, log)

    def test_workers_and_limits_that_no_hall_has(self):
        web = web_of(SMALL)
        for log in ([], log_of("0 step . 0"), None):
            for workers in NO_WORKERS:
                self.fails(log_holds, web, workers, None, log)
                self.fails(log_holds, web, workers, "x", log)
            for limit in NO_LIMITS:
                self.fails(log_holds, web, 2, limit, log)

    def test_what_is_handed_in_stays(self):
        web, log = web_of(SMALL), log_of("0 step . 0", "1 steal . 0")
        nodes = web.nodes()
        for _ in range(2):
            self.holds(log_holds, web, 2, None, log)
        self.assertEqual((log, web.nodes()), (log_of("0 step . 0", "1 steal . 0"), nodes))

    def changed(self, chance, log):
        """A log with something done to it."""
        log = list(log)
        if not log:
            return [(0, "rest", None, None)]
        at = chance.randrange(len(log))
        kind = chance.choice(("out", "twice", "about", "part", "part", "part", "other"))
        if kind == "out":
            del log[at]
        elif kind == "twice":
            log.insert(at, log[at])
        elif kind == "about":
            to = chance.choice((at, max(at - 1, 0), chance.randrange(len(log))))
            log[at], log[to] = log[to], log[at]
        elif kind == "part":
            place = chance.randrange(4)
            log[at] = with_part(log[at], place, chance.choice(log)[place])
        else:
            log[at] = with_part(log[at], 3, chance.choice((None, 0, 1, 2, (), (0,), True)))
        return log

    def test_changed_logs_beside_the_model(self):
        seen = collections.Counter()
        chance = random.Random(8)
        for works, name, args, told in runs_within(41, 500):
            if len(told.nodes) > 40:
                continue
            web = Web(Book(works), name, list(args), budget=BUDGET)
            workers, limit = chance.choice((1, 2, 2, 3)), chance.choice(limits_for(told))
            hall = Hall(Book(works), name, list(args), workers=workers, limit=limit, budget=BUDGET)
            weave(hall, list(itertools.islice(random_turns(chance, workers), chance.choice((3, 10, 25)))))
            for _ in range(3):
                log = self.changed(chance, hall.log())
                wanted = could_be_log(told, workers, limit, log)
                self.assertIs(log_holds(web, workers, limit, log), wanted, log)
                seen[wanted] += 1
        self.assertGreater(min(seen[True], seen[False]), 50)


class Chains(LookerTest):
    TEXT = main("go a slow()", "x = 1", "go b waiter(a)", "wait c b") + SLOW + WAITER

    def test_one_step(self):
        web = web_of(self.TEXT)
        for node in web.nodes():
            self.holds(chain_holds, web, [node[:2]])
        for step in (((), 6), ((), -1), ((0,), 2), ((2,), 0), ((0, 0), 0), ((-1,), 0), ((), 10 ** 39)):
            self.fails(chain_holds, web, [step])

    def test_all_of_a_run_of_one_task(self):
        web = web_of(main("a = 1", "a = 2", "a = 3"))
        steps = [((), number) for number in range(4)]
        self.holds(chain_holds, web, steps)
        for at, behind in itertools.combinations(range(5), 2):
            self.holds(chain_holds, web, steps[at:behind])
        for at in (1, 2):
            self.fails(chain_holds, web, steps[:at] + steps[at + 1:])
        self.fails(chain_holds, web, steps[::-1])
        self.fails(chain_holds, web, steps[:2] + steps[1:])
        self.fails(chain_holds, web, steps + [((), 4)])
        self.fails(chain_holds, web, [((), -1)] + steps)

    def test_every_two_steps(self):
        web = web_of(self.TEXT)
        steps = [node[:2] for node in web.nodes()]
        for one, other in itertools.product(steps, steps):
            self.assertIs(chain_holds(web, [one, other]), one in web.comes_of(*other))

    def test_over_goes_and_waits(self):
        web = web_of(self.TEXT)
        chain = [((), 0), ((0,), 0), ((0,), 1), ((1,), 0), ((1,), 1), ((), 3), ((), 4)]
        self.holds(chain_holds, web, chain)
        self.holds(chain_holds, web, [((), 0), ((), 1), ((), 2), ((1,), 0), ((1,), 1), ((), 3)])
        self.holds(chain_holds, web, longest(web))
        self.fails(chain_holds, web, chain[::-1])
        for at in range(1, len(chain) - 1):
            self.fails(chain_holds, web, chain[:at] + chain[at + 1:])
        for at in range(len(chain) - 1):
            self.fails(chain_holds, web, chain[:at] + [chain[at + 1], chain[at]] + chain[at + 2:])

    def test_empty(self):
        self.fails(chain_holds, web_of(self.TEXT), [])

    def test_kinds(self):
        web = web_of(self.TEXT)
        chain = [((), 0), ((0,), 0), ((0,), 1), ((1,), 0)]
        self.holds(chain_holds, web, chain)
        self.fails(chain_holds, web, tuple(chain))
        for at, step in enumerate(chain):
            for wrong in (listed(step), list(step), (list(step[0]), step[1]), step + (0,), step[:1], (step,)):
                self.fails(chain_holds, web, chain[:at] + [wrong] + chain[at + 1:])
                self.fails(chain_holds, web, [wrong])
            for wrong in (truthful(step), (step[0], bool(step[1])), (truthful(step[0]), step[1])):
                if repr(wrong) != repr(step):
                    self.fails(chain_holds, web, chain[:at] + [wrong] + chain[at + 1:])
                    self.fails(chain_holds, web, [wrong])

    def test_any_thing(self):
        web = web_of(self.TEXT)
        for thing in [None, 0, True, "", ()] + wrong_things():
            self.fails(chain_holds, web, thing)
            self.fails(chain_holds, web, [thing])
            self.fails(chain_holds, web, [((), 0), thing])
            self.fails(chain_holds, web, [(thing, 7)])
            self.fails(chain_holds, web, [((9,), thing)])
            self.fails(chain_holds, web, [((thing, 9), 0)])


class Levels(LookerTest):
    TEXT = Chains.TEXT

    def test_as_told(self):
        for text in (self.TEXT, TEXT, main(), main("a = 1"), main("go a failer(1)", "wait b a") + FAILER):
            web = web_of(text)
            self.holds(levels_hold, web, levels(web))
            for more in (1, 7, 10 ** 39):
                self.holds(levels_hold, web, [number + more for number in levels(web)])
            self.holds(levels_hold, web, [number * 3 for number in levels(web)])
            self.holds(levels_hold, web, list(range(1, len(web) + 1)))

    def test_one_lowered(self):
        web = web_of(self.TEXT)
        told = levels(web)
        # Each level is the least that goes, so that none can be lowered.
        for at, number in enumerate(told):
            for lower in (number - 1, 0, -1):
                self.fails(levels_hold, web, told[:at] + [lower] + told[at + 1:])

    def test_one_raised(self):
        web = web_of(self.TEXT)
        told, steps = levels(web), [node[:2] for node in web.nodes()]
        for at, number in enumerate(told):
            bounds = [told[behind] for behind, step in enumerate(steps) if steps[at] in web.comes_of(*step)]
            for raised in (number + 1, number + 2, number + 100):
                wanted = all(raised < bound for bound in bounds)
                self.assertIs(levels_hold(web, told[:at] + [raised] + told[at + 1:]), wanted)

    def test_too_few_and_too_many(self):
        web = web_of(self.TEXT)
        told = levels(web)
        self.fails(levels_hold, web, told[:-1])
        self.fails(levels_hold, web, told[1:])
        self.fails(levels_hold, web, told + [100])
        self.fails(levels_hold, web, [])

    def test_nought(self):
        for text in (main(), main("a = 1")):
            web = web_of(text)
            self.fails(levels_hold, web, [number - 1 for number in levels(web)])
            self.fails(levels_hold, web, [number - 5 for number in levels(web)])

    def test_truths(self):
        self.fails(levels_hold, web_of(main()), [True])
        self.fails(levels_hold, web_of(main()), [False])
        self.fails(levels_hold, web_of(main("a = 1")), [True, 2])
        self.holds(levels_hold, web_of(main("a = 1")), [1, 2])

    def test_any_thing(self):
        web = web_of(main("a = 1"))
        self.fails(levels_hold, web, (1, 2))
        for thing in [None, 0, True, "", ()] + wrong_things():
            self.fails(levels_hold, web, thing)
            self.fails(levels_hold, web, [thing, 10 ** 39])
            if thing != 10 ** 40 - 1:
                self.fails(levels_hold, web, [1, thing])
        self.holds(levels_hold, web, [1, 10 ** 40 - 1])


class LooseEnds(LookerTest):
    # (0,) is kept within, (1,) and (4,) are left, (2,) is waited for by another frame too, (3,) by another one alone.
    TEXT = main("go a slow()", "wait x a", "go b slow()", "go c slow()", "wait x c", "call x waiter(c)", "go d slow()",
                "call x waiter(d)", "go e slow()") + SLOW + WAITER

    def test_each_started_task(self):
        web = web_of(self.TEXT)
        self.assertEqual(web.loose(), ((1,), "left"))
        words = {(0,): None, (1,): "left", (2,): "other", (3,): "left", (4,): "left"}
        for path, word in itertools.product(words, ("left", "other", "", "Left", "left ", None, "within")):
            self.assertIs(loose_holds(web, (path, word)), word is not None and words[path] == word, (path, word))

    def test_paths_that_are_not_there(self):
        web = web_of(self.TEXT)
        for path, word in itertools.product([(), (5,), (1, 0), (-1,), None, 1, "1"], ("left", "other")):
            self.fails(loose_holds, web, (path, word))

    def test_a_run_that_is_kept_within(self):
        for text in (main(), main("go a slow()", "wait x a") + SLOW):
            for path, word in itertools.product([(), (0,)], ("left", "other")):
                self.fails(loose_holds, web_of(text), (path, word))
            self.fails(loose_holds, web_of(text), None)

    def test_kinds(self):
        web = web_of(self.TEXT)
        self.holds(loose_holds, web, ((1,), "left"))
        for wrong in ([(1,), "left"], ([1], "left"), ((True,), "left"), ((1,), "left", None), ((1,),), (((1,),), "left"),
                      ("left", (1,)), (((1,), "left"),), [((1,), "left")]):
            self.fails(loose_holds, web, wrong)
        other = web_of(main("go a slow()") + SLOW)
        self.holds(loose_holds, other, ((0,), "left"))
        self.fails(loose_holds, other, ((False,), "left"))

    def test_any_thing(self):
        web = web_of(self.TEXT)
        for thing in [None, 0, True, "", "left", ()] + wrong_things():
            self.fails(loose_holds, web, thing)
            self.fails(loose_holds, web, (thing, "left"))
            if thing != "left":
                self.fails(loose_holds, web, ((1,), thing))
            self.fails(loose_holds, web, ((thing, 7), "left"))

    def test_the_least_is_among_them(self):
        seen = collections.Counter()
        for works, name, args, told in runs_within(51, 300):
            web = Web(Book(works), name, list(args), budget=BUDGET)
            end = web.loose()
            if end is not None:
                self.holds(loose_holds, web, end)
                self.fails(loose_holds, web, (end[0], "left" if end[1] == "other" else "other"))
            found = [path for path, _ in serial(Book(works), name, list(args), budget=BUDGET).ends()
                     if loose_holds(web, (path, "left")) or loose_holds(web, (path, "other"))]
            self.assertEqual(found[0] if found else None, end[0] if end else None)
            seen[end is None] += 1
        self.assertGreater(min(seen.values()), 20)


class Refusals(LookerTest):
    def test_a_thing_as_large_as_can_be(self):
        web, deep = web_of(SMALL), ()
        for _ in range(29):
            deep = (deep,)
        wide = [[0] * 300 for _ in range(300)]
        for thing in (deep, [deep], wide, tuple(map(tuple, wide)), [tuple(range(90000))], [(tuple(range(90000)), 0)]):
            self.fails(log_holds, web, 2, None, thing)
            self.fails(log_holds, web, thing, None, [])
            self.fails(log_holds, web, 2, thing, [])
            self.fails(chain_holds, web, thing)
            self.fails(levels_hold, web, thing)
            self.fails(loose_holds, web, thing)

    def test_a_web_of_a_read_book(self):
        self.holds(log_holds, Web(read_book(SMALL), "main", []), 1, None, [(0, "step", (), 0)])


if __name__ == "__main__":
    unittest.main()
