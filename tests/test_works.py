"""Points 2 and 4: what a work is, let by just at each bound and refused just beyond it."""

import copy
import unittest

from stealhall.errors import BadTree
from stealhall.forms import MOST_ROWS, check_work
from tests.samples import (A, EMPTY, FULL, GIVE, ONE, PUT, SIGNS, WORDS, deep_expression, if_row, nested_ifs, part_at,
                           part_places, with_part, with_part_at, within, work, wrong_things)


class WorkTest(unittest.TestCase):
    def let_by(self, thing):
        self.assertIsNone(check_work(thing))

    def refused(self, thing):
        before = copy.deepcopy(thing)
        with self.assertRaises(BadTree):
            check_work(thing)
        self.assertEqual(repr(thing), repr(before))

    def expression_let_by(self, tree):
        for thing in works_with_expression(tree):
            self.let_by(thing)

    def expression_refused(self, tree):
        for thing in works_with_expression(tree):
            self.refused(thing)


def works_with_expression(tree):
    """A work for each place where an expression may stand."""
    rows = [("put", "a", tree), ("go", "a", "f", (tree,)), ("call", "a", "f", (ONE, tree)), ("wait", "a", "b", tree),
            ("if", tree, (), ()), ("give", tree), ("fail", tree), if_row(first=[("give", tree)]),
            if_row(second=[("give", tree)])]
    return [work(row) for row in rows]


def works_with_name(name):
    """A work for each place where a name may stand."""
    rows = [("put", name, ONE), ("go", name, "f", ()), ("go", "a", name, ()), ("call", name, "f", ()),
            ("call", "a", name, ()), ("wait", name, "a", None), ("wait", "a", name, None), ("give", ("name", name))]
    heads = [work(name=name), work(names=(name,)), work(names=("a", name))]
    return heads + [work(row) for row in rows] + [work(if_row(first=[row])) for row in rows]


class Shapes(WorkTest):
    def test_ordinary_works(self):
        self.let_by(FULL)
        self.let_by(EMPTY)
        self.let_by(work(PUT, GIVE, name="abcdefgh", names=("a", "b", "c", "d"), room=1000))

    def test_a_let_by_work_is_as_it_was(self):
        before = repr(FULL)
        check_work(FULL)
        self.assertEqual(repr(FULL), before)

    def test_every_part_that_is_another_thing(self):
        for place in part_places(FULL):
            for wrong in wrong_things():
                with self.subTest(place=place, wrong=wrong):
                    self.refused(with_part_at(FULL, place, wrong))

    def test_none_stands_only_where_a_wait_has_no_expression(self):
        for place in part_places(FULL):
            thing = with_part_at(FULL, place, None)
            is_waits = len(place) == 3 and place[-1] == 3 and part_at(FULL, place[:-1])[0] == "wait"
            self.let_by(thing) if is_waits else self.refused(thing)

    def test_a_list_in_the_place_of_a_tuple_at_every_depth(self):
        self.refused(list(FULL))
        self.refused(list(EMPTY))
        for place in part_places(FULL):
            part = part_at(FULL, place)
            if isinstance(part, tuple):
                with self.subTest(place=place):
                    self.refused(with_part_at(FULL, place, list(part)))

    def test_a_tuple_with_a_part_lacking_or_too_many(self):
        for place in [()] + part_places(FULL):
            part = part_at(FULL, place)
            if isinstance(part, tuple) and part and isinstance(part[0], str) and place != (2,):
                for wrong in (part[:-1], part + part[-1:], part + (None,), part + (ONE,), part[1:], ()):
                    with self.subTest(place=place, wrong=wrong):
                        self.refused(with_part_at(FULL, place, wrong))

    def test_a_row_is_no_expression_and_an_expression_no_row(self):
        for row in FULL[4] + (EMPTY,):
            self.expression_refused(row)
        for tree in (ONE, A, ("+", ONE, ONE), ("give", ONE)[0], ONE[0]):
            self.refused(work(tree))
            self.refused(work(if_row(first=[tree])))
            self.refused(work(if_row(second=[tree])))

    def test_other_words_at_the_head(self):
        for word in ("book", "Work", "work ", "", "put", None, True, 0, ("work",), ["work"]):
            self.refused(with_part(FULL, 0, word))
        for word in ("puts", "PUT", "", "work", "else", "end", "jump", "room", None, 1, ("put",), ["put"]):
            for row in FULL[4]:
                self.refused(work(with_part(row, 0, word)))

    def test_each_row_by_the_word_of_another(self):
        # Rows of like shape may change their words: put with none, go with call, give with fail.
        like = {"go": ("go", "call"), "call": ("go", "call"), "give": ("give", "fail"), "fail": ("give", "fail")}
        for row in (PUT, GIVE, if_row(), ("go", "a", "f", (ONE,)), ("call", "a", "f", ()), ("wait", "a", "b", ONE),
                    ("wait", "a", "b", None), ("fail", ONE)):
            for word in ("put", "go", "call", "wait", "if", "give", "fail"):
                thing = work(with_part(row, 0, word))
                if word in like.get(row[0], (row[0],)):
                    self.let_by(thing)
                else:
                    self.refused(thing)

    def test_wholly_other_things(self):
        for thing in wrong_things() + [None, 0, 1, "f", (), (0,) * 5, "works", ["work", "f", (), 0, ()], [EMPTY],
                                       (EMPTY,), PUT, ONE, within(EMPTY, 28, tuple), within(FULL, 5, list)]:
            with self.subTest(thing=thing):
                self.refused(thing)

    def test_things_of_very_many_things(self):
        many = 90000
        self.refused([0] * many)
        self.refused((None,) * many)
        self.refused(("work", "f", ("a",) * many, 0, ()))
        self.refused(work(*[PUT] * many))
        self.refused(work(("go", "a", "f", (ONE,) * many)))
        self.refused(work(name="a" * 10000))

    def test_a_part_that_stands_in_many_places_is_refused_soon(self):
        # Written out these things would be far too great, so they are not compared with how they were.
        rows = (PUT,)
        for _ in range(3):
            rows = (("if", ONE, rows, rows),) * 40
        with self.assertRaises(BadTree):
            check_work(work(*rows))
        tree = ONE
        for _ in range(29):
            tree = ("+", tree, tree)
        for thing in works_with_expression(tree):
            with self.assertRaises(BadTree):
                check_work(thing)


class Rows(WorkTest):
    def test_forty_rows_and_one_more(self):
        self.assertEqual(MOST_ROWS, 40)
        self.let_by(work(*[PUT] * 40))
        self.refused(work(*[PUT] * 41))

    def test_rows_within_ifs_are_counted(self):
        for first, second, behind in ((39, 0, 0), (0, 39, 0), (20, 19, 0), (0, 0, 39), (13, 13, 13), (1, 1, 37)):
            rows = [if_row([PUT] * first, [PUT] * second)] + [PUT] * behind
            self.let_by(work(*rows))
            self.refused(work(PUT, *rows))
            self.refused(work(*rows, PUT))
            self.refused(work(if_row([PUT] * (first + 1), [PUT] * second), *rows[1:]))
            self.refused(work(if_row([PUT] * first, [PUT] * (second + 1)), *rows[1:]))

    def test_rows_within_ifs_within_ifs_are_counted(self):
        for many, check in ((37, self.let_by), (38, self.refused)):
            check(work(if_row([if_row([if_row([PUT] * many)])])))
            check(work(if_row([], [if_row([], [if_row([], [PUT] * many)])])))
            check(work(if_row([if_row([], [PUT])], [if_row([PUT] * (many - 1))])))

    def test_bare_ifs_are_counted(self):
        self.let_by(work(*[if_row()] * 40))
        self.refused(work(*[if_row()] * 41))
        self.let_by(work(*[if_row([PUT])] * 20))
        self.refused(work(*[if_row([PUT])] * 20, if_row()))

    def test_three_ifs_within_one_another_and_four(self):
        for second in (False, True):
            self.let_by(work(nested_ifs(3, second)))
            self.refused(work(nested_ifs(4, second)))
        self.refused(work(if_row([nested_ifs(3)])))
        self.refused(work(if_row([], [nested_ifs(3)])))
        self.refused(work(PUT, if_row([PUT, nested_ifs(2)], [PUT, nested_ifs(3, True)])))

    def test_a_fourth_if_that_is_bare(self):
        self.let_by(work(if_row([if_row([if_row()])])))
        self.refused(work(if_row([if_row([if_row([if_row()])])])))

    def test_ifs_beside_one_another_are_not_within(self):
        self.let_by(work(*[nested_ifs(3)] * 10))
        self.let_by(work(if_row([nested_ifs(2)] * 3, [nested_ifs(2, True)] * 3)))

    def test_expressions_of_go_and_call(self):
        for word in ("go", "call"):
            for many in range(5):
                self.let_by(work((word, "a", "f", (ONE,) * many)))
            self.refused(work((word, "a", "f", (ONE,) * 5)))
            self.refused(work((word, "a", "f", [ONE])))
            self.refused(work((word, "a", "f", [])))
            self.refused(work((word, "a", "f", ONE)))
            self.refused(work((word, "a", "f", None)))
            self.refused(work((word, "a", "f", (None,))))

    def test_a_go_of_a_work_that_is_nowhere_is_let_by(self):
        self.let_by(work(("go", "a", "nowhere", (ONE,)), ("call", "a", "f", (ONE,))))


class Expressions(WorkTest):
    def test_each_sign(self):
        for sign in SIGNS:
            self.expression_let_by((sign, ONE, A))
        for sign in ("/", "%", "=", "!=", ">", "<=", "", "number", "name", "+-", " +", None, 0, True, ["+"], ("+",)):
            self.expression_refused((sign, ONE, A))

    def test_six_deep_and_seven(self):
        for sign in SIGNS:
            for right in (False, True):
                self.expression_let_by(deep_expression(6, sign, right))
                self.expression_refused(deep_expression(7, sign, right))
        self.expression_let_by(("+", deep_expression(5), deep_expression(5, "*", True)))
        self.expression_refused(("+", ONE, deep_expression(6)))
        self.expression_refused(("+", deep_expression(6, "-", True), ONE))
        self.expression_refused(deep_expression(30))

    def test_full_to_the_sixth(self):
        tree = A
        for _ in range(5):
            tree = ("*", tree, tree)
        self.expression_let_by(tree)
        self.expression_refused(("*", tree, tree))

    def test_numbers(self):
        for number in (0, 1, 9, 10, 10 ** 29, 10 ** 30 - 1):
            self.expression_let_by(("number", number))
        for number in (10 ** 30, 10 ** 30 + 1, 10 ** 40 - 1, -1, -10 ** 29, -10 ** 30):
            self.expression_refused(("number", number))

    def test_truths_are_no_numbers(self):
        for number in (True, False, None, "1", "", (1,), [1], ONE):
            self.expression_refused(("number", number))
            self.expression_refused(("+", ONE, ("number", number)))

    def test_a_number_or_name_by_itself(self):
        for tree in (0, 1, "a", None, True, (), ("a",), ("number",), ("name",), ["number", 1], ["name", "a"],
                     ("number", 1, 1), ("name", "a", "a"), ("Number", 1), ("name", 1), ("number", "a")):
            if tree is not None:
                self.expression_refused(tree)
            self.expression_refused(("+", ONE, tree))
            self.expression_refused(("+", tree, ONE))

    def test_lists_within(self):
        self.expression_refused(["+", ONE, ONE])
        self.expression_refused(("+", list(ONE), ONE))
        self.expression_refused(("+", ONE, ("*", list(A), ONE)))


class Names(WorkTest):
    def test_names(self):
        for name in ("a", "z", "m", "ab", "abcdefg", "abcdefgh", "zzzzzzzz", "put", "number", "name", "book"):
            for thing in works_with_name(name):
                if thing[2] != ("a", "a"):
                    self.let_by(thing)

    def test_texts_that_are_none(self):
        for name in ("", "abcdefghi", "A", "Z", "aB", "Ab", "a1", "1", "a_b", "_", " ", "a ", " a", "a b", "a\n", "\n",
                     "`", "{", "a.b", "+", "a,b", "~"):
            for thing in works_with_name(name):
                with self.subTest(thing=thing):
                    self.refused(thing)

    def test_the_ten_words(self):
        for name in WORDS:
            for thing in works_with_name(name):
                self.refused(thing)

    def test_names_that_only_begin_with_a_word(self):
        for word in WORDS:
            for name in (word + "s", "x" + word, word + word):
                for thing in works_with_name(name):
                    self.let_by(thing)

    def test_other_things_than_texts(self):
        for name in (None, 0, 1, True, ("a",), ["a"], (), [], A):
            for thing in works_with_name(name):
                self.refused(thing)

    def test_four_names_and_five(self):
        names = ("a", "b", "c", "d", "e")
        for many in range(5):
            self.let_by(work(names=names[:many]))
        self.refused(work(names=names))

    def test_a_name_twice(self):
        for names in (("a", "a"), ("a", "b", "a"), ("b", "a", "a"), ("a", "b", "c", "c"), ("ab", "ab")):
            self.refused(work(names=names))

    def test_names_that_are_no_tuple(self):
        for names in (["a"], [], "a", "ab", "", None, 0, {"a": 1}):
            self.refused(work(names=names))

    def test_a_work_may_be_handed_a_name_as_its_own(self):
        self.let_by(work(name="a", names=("a",)))


class Rooms(WorkTest):
    def test_rooms(self):
        for room in (0, 1, 999, 1000):
            self.let_by(work(room=room))
        for room in (-1, 1001, 10 ** 6, -1000, 10 ** 39):
            self.refused(work(room=room))

    def test_truths_and_others_are_no_rooms(self):
        for room in (True, False, None, "0", "", (), (0,), [0], ("number", 0)):
            self.refused(work(room=room))


if __name__ == "__main__":
    unittest.main()
