"""The interface: names, arguments, defaults, and that each listed method is defined in its class itself."""

import inspect
import unittest

from stealhall import errors, forms, writing

ARGUMENTS = [
    (errors.BadText, "(row)"), (errors.BadTurn, "(at)"), (errors.Missing, "(name)"), (errors.Spent, "(steps)"),
    (errors.Broken, "(number)"),
    (forms.check_work, "(thing)"), (forms.Book, "(works)"), (forms.Book.names, "(self)"),
    (forms.Book.tree, "(self, name)"),
    (writing.show_expression, "(tree)"), (writing.show_work, "(work, *, depth=0)"),
]
METHODS = [(forms.Book, ["names", "tree", "__len__", "__eq__", "__str__", "__repr__"])]


class Interface(unittest.TestCase):
    def test_arguments(self):
        for thing, told in ARGUMENTS:
            self.assertEqual(str(inspect.signature(thing)), told, thing)

    def test_methods_stand_in_their_class(self):
        for holder, names in METHODS:
            for name in names:
                self.assertIn(name, vars(holder))

    def test_values(self):
        self.assertEqual((forms.MOST_WORKS, forms.MOST_ROWS), (12, 40))


if __name__ == "__main__":
    unittest.main()
