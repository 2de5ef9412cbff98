"""Points 2, 3 and 11: the code of a work."""

import copy
import random
import unittest

from stealhall.code import code_of
from stealhall.reading import read_book
from tests.books import random_works
from tests.samples import A, EMPTY, FULL, GIVE, ONE, PUT, if_row, nested_ifs, work

LAST = ("give", ("number", 0))


def a_put(number):
    return ("put", "a", ("number", number))


class CodeTest(unittest.TestCase):
    def codes(self, rows, *told):
        before = copy.deepcopy(rows)
        code = code_of(work(*rows))
        self.assertEqual(code, list(told) + [LAST])
        self.assertEqual(rows, before)
        self.assertIsInstance(code, list)
        self.assertTrue(all(isinstance(row, tuple) for row in code))


class WithoutIfs(CodeTest):
    def test_no_rows(self):
        self.codes([])
        self.assertEqual(code_of(EMPTY), [("give", ("number", 0))])
        self.assertEqual(code_of(work(names=("a", "b"), room=7)), [LAST])

    def test_rows_as_they_are(self):
        rows = [PUT, ("go", "d", "f", (ONE, A)), ("call", "e", "g", ()), ("wait", "x", "d", None), ("wait", "x", "d", ONE),
                GIVE, ("fail", A)]
        for row in rows:
            self.codes([row], row)
        self.codes(rows, *rows)
        self.codes([GIVE], GIVE)
        self.codes([LAST], LAST)

    def test_forty_rows(self):
        self.codes([PUT] * 40, *[PUT] * 40)


class WithIfs(CodeTest):
    def test_without_second_rows(self):
        self.codes([if_row([PUT])], ("if", ONE, 2), PUT)
        self.codes([if_row([PUT, GIVE])], ("if", ONE, 3), PUT, GIVE)
        self.codes([PUT, if_row([GIVE]), PUT], PUT, ("if", ONE, 3), GIVE, PUT)
        self.codes([if_row([PUT], condition=("<", A, ONE))], ("if", ("<", A, ONE), 2), PUT)

    def test_with_second_rows(self):
        self.codes([if_row([PUT], [GIVE])], ("if", ONE, 3), PUT, ("jump", 4), GIVE)
        self.codes([if_row([a_put(1), a_put(2)], [a_put(3), a_put(4), a_put(5)]), GIVE],
                   ("if", ONE, 4), a_put(1), a_put(2), ("jump", 7), a_put(3), a_put(4), a_put(5), GIVE)
        self.codes([PUT, PUT, if_row([PUT], [GIVE])], PUT, PUT, ("if", ONE, 5), PUT, ("jump", 6), GIVE)

    def test_empty_ones(self):
        self.codes([if_row()], ("if", ONE, 1))
        self.codes([if_row(), if_row()], ("if", ONE, 1), ("if", ONE, 2))
        self.codes([if_row([], [PUT])], ("if", ONE, 2), ("jump", 3), PUT)
        self.codes([PUT, if_row([], [PUT, GIVE]), PUT], PUT, ("if", ONE, 3), ("jump", 5), PUT, GIVE, PUT)

    def test_beside_one_another(self):
        self.codes([if_row([PUT], [GIVE]), if_row([PUT], [GIVE])],
                   ("if", ONE, 3), PUT, ("jump", 4), GIVE, ("if", ONE, 7), PUT, ("jump", 8), GIVE)

    def test_within_one_another(self):
        self.codes([nested_ifs(3)], ("if", ONE, 4), ("if", ONE, 4), ("if", ONE, 4), PUT)
        self.codes([nested_ifs(3, True)], ("if", ONE, 2), ("jump", 7), ("if", ONE, 4), ("jump", 7), ("if", ONE, 6),
                   ("jump", 7), PUT)
        self.codes([if_row([if_row([a_put(1)], [a_put(2)])], [if_row([a_put(3)], [a_put(4)])]), GIVE],
                   ("if", ONE, 6), ("if", ONE, 4), a_put(1), ("jump", 5), a_put(2), ("jump", 10),
                   ("if", ONE, 9), a_put(3), ("jump", 10), a_put(4), GIVE)
        self.codes([if_row([if_row()], [if_row()])], ("if", ONE, 3), ("if", ONE, 2), ("jump", 4), ("if", ONE, 4))
        self.codes([PUT, if_row([PUT, if_row([], [GIVE]), PUT])],
                   PUT, ("if", ONE, 7), PUT, ("if", ONE, 5), ("jump", 6), GIVE, PUT)

    def test_each_kind_of_row(self):
        rows = FULL[4]
        self.codes(list(rows), *rows[:5], ("if", rows[5][1], 11), rows[5][2][0], ("if", rows[5][2][1][1], 9), ("jump", 10),
                   ("fail", ("number", 4)), ("jump", 12), ("put", "y", ("number", 5)), rows[6])

    def test_an_else_without_rows_as_none(self):
        book = read_book("work f() room 0\nif 1\na = 1\nelse\nend")
        self.assertEqual(code_of(book.tree("f")), [("if", ONE, 2), PUT, LAST])


class Told(unittest.TestCase):
    def test_a_told_list_is_the_askers_own(self):
        told = code_of(FULL)
        before = list(told)
        told.clear()
        code_of(FULL).append(None)
        self.assertEqual(code_of(FULL), before)
        self.assertIsNot(code_of(FULL), code_of(FULL))


def rows_of(code, first, last):
    """The rows that a stretch of code tells, as the places of its ifs and jumps have it."""
    rows = []
    at = first
    while at < last:
        row = code[at]
        if row[0] != "if":
            rows.append(row)
            at += 1
            continue
        place = row[2]
        # Behind a jump there are always second rows, so one ahead of an if's place can only be that if's own.
        jump = code[place - 1]
        if jump[0] == "jump":
            rows.append(("if", row[1], rows_of(code, at + 1, place - 1), rows_of(code, place, jump[1])))
            at = jump[1]
        else:
            rows.append(("if", row[1], rows_of(code, at + 1, place), ()))
            at = place
    return tuple(rows)


class BackToRows(unittest.TestCase):
    def test_books_of_many_kinds(self):
        chance = random.Random(9)
        ifs = 0
        for _ in range(300):
            for tree in random_works(chance):
                code = code_of(tree)
                self.assertEqual(code[-1], LAST)
                self.assertEqual(rows_of(code, 0, len(code) - 1), tree[4])
                ifs += sum(row[0] == "if" for row in code)
        self.assertGreater(ifs, 300)


if __name__ == "__main__":
    unittest.main()
