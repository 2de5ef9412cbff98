"""The interface: names, arguments, defaults, and that each listed method is defined in its class itself."""

import inspect
import unittest

from stealhall import (bounds, chains, code, desk, errors, forms, hall, lanes, looker, plain, reading, weaving, web,
                       writing)

ARGUMENTS = [
    (errors.BadText, "(row)"), (errors.BadTurn, "(at)"), (errors.Missing, "(name)"), (errors.Spent, "(steps)"),
    (errors.Broken, "(number)"),
    (forms.check_work, "(thing)"), (forms.Book, "(works)"), (forms.Book.names, "(self)"),
    (forms.Book.tree, "(self, name)"),
    (writing.show_expression, "(tree)"), (writing.show_work, "(work, *, depth=0)"),
    (reading.read_expression, "(text)"), (reading.read_book, "(text)"),
    (plain.serial, "(book, name, args, *, budget=400)"), (plain.Run.ends, "(self)"), (plain.got, "(result)"),
    (code.code_of, "(work)"),
    (web.Web, "(book, name, args, *, budget=400)"), (web.Web.nodes, "(self)"), (web.Web.comes_of, "(self, path, n)"),
    (web.Web.base, "(self)"), (web.Web.largest, "(self)"), (web.Web.loose, "(self)"),
    (chains.levels, "(web)"), (chains.longest, "(web)"), (chains.height, "(web)"),
    (lanes.is_ahead, "(one, other)"), (lanes.in_order, "(paths)"), (lanes.Lane, "()"), (lanes.Lane.lay, "(self, path)"),
    (lanes.Lane.draw, "(self)"), (lanes.Lane.rob, "(self)"), (lanes.Lane.fit, "(self, path)"),
    (lanes.Lane.things, "(self)"),
    (hall.Hall, "(book, name, args, *, workers=2, limit=None, budget=400)"),
    (hall.Hall.turn, "(self, worker, *, victim=None)"), (hall.Hall.hand, "(self, worker)"),
    (hall.Hall.lane, "(self, worker)"), (hall.Hall.parked, "(self)"), (hall.Hall.aside, "(self)"),
    (hall.Hall.taken, "(self)"), (hall.Hall.greatest, "(self)"), (hall.Hall.first, "(self)"),
    (hall.Hall.done, "(self)"), (hall.Hall.outcome, "(self)"), (hall.Hall.ended, "(self)"), (hall.Hall.log, "(self)"),
    (hall.Hall.twin, "(self)"), (hall.Hall.at_work, "(self)"), (hall.Hall.weavings, "(self)"),
    (weaving.weave, "(hall, turns, *, rounds=0, watch=None)"), (weaving.run_out, "(hall)"),
    (bounds.most_steals, "(workers, *, height=0)"), (bounds.most_room, "(web, workers, *, limit=None)"),
    (bounds.most_rounds, "(web, workers, *, limit=None)"),
    (looker.log_holds, "(web, workers, limit, log)"), (looker.chain_holds, "(web, chain)"),
    (looker.levels_hold, "(web, numbers)"), (looker.loose_holds, "(web, end)"),
    (desk.Desk, "()"), (desk.Desk.say, "(self, row)"),
]
METHODS = [
    (forms.Book, ["names", "tree", "__len__", "__eq__", "__str__", "__repr__"]),
    (plain.Run, ["ends"]),
    (web.Web, ["nodes", "comes_of", "base", "largest", "loose", "__len__"]),
    (lanes.Lane, ["lay", "draw", "rob", "fit", "things", "__len__", "__eq__", "__repr__"]),
    (hall.Hall, ["turn", "hand", "lane", "parked", "aside", "taken", "greatest", "first", "done", "outcome", "ended",
                 "log", "twin", "at_work", "weavings"]),
    (desk.Desk, ["say"]),
]


class Interface(unittest.TestCase):
    def test_arguments(self):
        for thing, told in ARGUMENTS:
            self.assertEqual(str(inspect.signature(thing)), told, thing)

    def test_methods_stand_in_their_class(self):
        for holder, names in METHODS:
            for name in names:
                self.assertIn(name, vars(holder))

    def test_values(self):
        self.assertEqual((forms.MOST_WORKS, forms.MOST_ROWS, plain.BUDGET, hall.WORKERS), (12, 40, 400, 2))

    def test_values_of_a_run(self):
        run = plain.serial(reading.read_book("work f() room 3"), "f", [])
        self.assertEqual((run.result, run.count, run.most), (("gives", 0), 1, 3))


if __name__ == "__main__":
    unittest.main()
