"""Point 2 and the interface: where each refusal stands, and its value."""

import unittest

from stealhall import errors

PLACES = {
    "StealError": ValueError,
    "BadText": errors.StealError,
    "BadTree": errors.StealError,
    "BadArgs": errors.StealError,
    "BadHall": errors.StealError,
    "BadTurn": errors.StealError,
    "NoRow": errors.StealError,
    "Missing": LookupError,
    "Bare": LookupError,
    "Spent": RuntimeError,
    "Broken": ArithmeticError,
}
VALUES = {"BadText": "row", "BadTurn": "at", "Missing": "name", "Spent": "steps", "Broken": "number"}


class Errors(unittest.TestCase):
    def test_each_stands_straight_under_the_one_told(self):
        for name, base in PLACES.items():
            with self.subTest(name):
                self.assertEqual(getattr(errors, name).__bases__, (base,))

    def test_there_are_no_others(self):
        found = [name for name, thing in vars(errors).items() if isinstance(thing, type)]
        self.assertEqual(sorted(found), sorted(PLACES))

    def test_none_is_under_another_own_one_but_so(self):
        for name in PLACES:
            for other in PLACES:
                under = issubclass(getattr(errors, name), getattr(errors, other))
                told = name == other or PLACES[name] == getattr(errors, other)
                self.assertEqual(under, told, (name, other))

    def test_each_value_is_set_on_each_object(self):
        for name, value in VALUES.items():
            for told in (0, 1, -7, "abc", ""):
                with self.subTest(name, told=told):
                    error = getattr(errors, name)(told)
                    self.assertEqual(vars(error), {value: told})
                    self.assertIsInstance(str(error), str)

    def test_two_objects_have_values_of_their_own(self):
        one, other = errors.BadText(1), errors.BadText(2)
        self.assertEqual((one.row, other.row), (1, 2))

    def test_those_without_a_value_are_made_of_nothing(self):
        for name in PLACES:
            if name not in VALUES:
                error = getattr(errors, name)()
                self.assertEqual(vars(error), {})

    def test_they_are_raised_and_caught_by_what_they_are_under(self):
        for name, base in PLACES.items():
            wanted = [3] if name in VALUES else []
            with self.assertRaises(base):
                raise getattr(errors, name)(*wanted)


if __name__ == "__main__":
    unittest.main()
