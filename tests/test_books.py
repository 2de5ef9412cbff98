"""Points 2 and 5: what a book is made of, which refusal goes first, and what a book tells."""

import copy
import unittest

from stealhall.errors import BadTree, Missing
from stealhall.forms import MOST_WORKS, Book
from tests.samples import A, EMPTY, FULL, GIVE, ONE, PUT, if_row, with_part, within, work, wrong_things

TWELVE = "abcdefghijkl"


def start(name, many=0, word="go"):
    return (word, "x", name, (ONE,) * many)


class BookTest(unittest.TestCase):
    def refused(self, works):
        before = copy.deepcopy(works)
        with self.assertRaises(BadTree):
            Book(works)
        self.assertEqual(repr(works), repr(before))

    def missing(self, name, works):
        before = copy.deepcopy(works)
        with self.assertRaises(Missing) as caught:
            Book(works)
        self.assertEqual(caught.exception.name, name)
        self.assertEqual(repr(works), repr(before))


class MadeOf(BookTest):
    def test_twelve_works_and_thirteen(self):
        self.assertEqual(MOST_WORKS, 12)
        works = [work(name=name) for name in TWELVE]
        self.assertEqual(len(Book(works)), 12)
        self.refused(works + [work(name="m")])
        self.refused([EMPTY] * 90000)

    def test_no_works(self):
        self.assertEqual(Book([]).names(), [])

    def test_only_a_list(self):
        for thing in ((), (EMPTY,), (EMPTY, FULL), EMPTY, None, 0, 1, True, False, "", "f", "work g() room 0", ONE):
            self.refused(thing)
        for thing in wrong_things():
            if thing != []:
                self.refused(thing)

    def test_a_list_of_other_things(self):
        for thing in wrong_things() + [None, 0, 1, True, "f", list(EMPTY), [EMPTY], (EMPTY,), PUT, ONE, Book([EMPTY]),
                                       within(EMPTY, 27, tuple)]:
            with self.subTest(thing=thing):
                with self.assertRaises(BadTree):
                    Book([thing])
                with self.assertRaises(BadTree):
                    Book([EMPTY, thing])

    def test_names_twice(self):
        self.refused([EMPTY, EMPTY])
        self.refused([work(), EMPTY, work(GIVE)])
        self.refused([EMPTY, work(name="b"), work(name="c"), work(name="b", room=4)])

    def test_an_ill_work(self):
        self.refused([EMPTY, work(room=1001)])
        self.refused([EMPTY, work(*[PUT] * 41)])
        self.refused([EMPTY, with_part(FULL, 3, True)])


class GoAndCall(BookTest):
    def test_works_of_any_place(self):
        works = [work(start("f"), start("g"), start("h", word="call"), name="f"), work(start("f"), name="g"),
                 work(start("g", word="call"), start("h"), name="h")]
        self.assertEqual(Book(works).names(), ["f", "g", "h"])

    def test_as_many_expressions_as_names(self):
        for word in ("go", "call"):
            for handed in range(5):
                names = ("a", "b", "c", "d")[:handed]
                for many in range(5):
                    works = [work(start("h", many, word)), work(name="h", names=names)]
                    if many == handed:
                        self.assertEqual(len(Book(works)), 2)
                    else:
                        self.refused(works)
                        self.refused(works[::-1])

    def test_itself_with_too_many_or_too_few(self):
        for word in ("go", "call"):
            self.assertEqual(len(Book([work(start("f", 1, word), names=("a",))])), 1)
            self.refused([work(start("f", 0, word), names=("a",))])
            self.refused([work(start("f", 2, word), names=("a",))])

    def test_no_such_work(self):
        for word in ("go", "call"):
            self.missing("h", [work(start("h", 0, word))])
            self.missing("h", [EMPTY, work(start("h", 3, word))])
            self.missing("gg", [EMPTY, work(start("gg", 0, word))])
            self.missing("x", [EMPTY, work(start("x", 0, word))])

    def test_within_the_rows_of_an_if(self):
        for word in ("go", "call"):
            for row in (start("h", 0, word), start("g", 1, word)):
                for wrapped in (if_row([row]), if_row([], [row]), if_row([PUT], [PUT, row]), if_row([if_row([row])]),
                                if_row([], [if_row([], [row])]), if_row([if_row([], [if_row([row])])])):
                    for works in ([EMPTY, work(wrapped)], [work(PUT, wrapped, PUT), EMPTY]):
                        if row[2] == "h":
                            self.missing("h", works)
                        else:
                            self.refused(works)

    def test_the_first_of_several_rows(self):
        self.missing("x", [work(start("x"), start("y"))])
        self.missing("y", [work(start("f"), start("y"), start("x"))])
        self.refused([work(start("f", 1), start("x"))])
        self.missing("x", [work(start("x"), start("f", 1))])
        self.missing("x", [work(start("x", word="call"), start("y", word="go"))])

    def test_the_first_of_several_works(self):
        self.missing("x", [work(start("x")), work(start("y"), name="g")])
        self.refused([work(start("g", 1)), work(start("y"), name="g")])
        self.missing("y", [work(start("y")), work(start("f", 1), name="g")])

    def test_first_rows_of_an_if_go_ahead_of_its_second_ones(self):
        self.missing("x", [work(if_row([start("x")], [start("y")]))])
        self.refused([work(if_row([start("f", 1)], [start("y")]))])
        self.missing("y", [work(if_row([start("y")], [start("f", 1)]))])
        self.missing("x", [work(if_row([if_row([], [start("x")])], [start("y")]), start("z"))])

    def test_rows_of_an_if_go_ahead_of_those_behind_it_and_behind_those_ahead(self):
        self.missing("x", [work(if_row([], [start("x")]), start("y"))])
        self.missing("y", [work(start("y"), if_row([start("x")]))])
        self.refused([work(start("f", 2), if_row([start("x")]))])

    def test_an_ill_work_goes_ahead_of_an_ill_go_or_call(self):
        astray = work(start("nowhere"))
        self.refused([astray, work(name="g", room=1001)])
        self.refused([astray, None])
        self.refused([astray, work(name="f", room=2)])
        self.refused([astray] + [work(name=name) for name in TWELVE])
        self.refused((astray,))
        self.refused([work(start("nowhere"), ("give", ("number", True)))])


class Telling(BookTest):
    def setUp(self):
        self.works = [FULL, EMPTY, work(PUT, name="h")]
        self.book = Book(self.works)

    def test_names(self):
        self.assertEqual(self.book.names(), ["f", "g", "h"])
        self.assertEqual(Book(self.works[::-1]).names(), ["h", "g", "f"])

    def test_told_names_are_the_askers_own(self):
        told = self.book.names()
        told.append("x")
        told[0] = "y"
        self.assertEqual(self.book.names(), ["f", "g", "h"])
        self.assertEqual(repr(self.book), "Book(f, g, h)")
        before = self.book.names()
        self.book.names().clear()
        self.assertEqual(before, ["f", "g", "h"])

    def test_tree_of_each_name(self):
        for tree in self.works:
            self.assertEqual(self.book.tree(tree[1]), tree)
            self.assertIsInstance(self.book.tree(tree[1]), tuple)

    def test_tree_of_a_name_without_a_work(self):
        for name in ("x", "", "F", "ff", "work", "f g", "a text\nof two lines", "f" * 10000):
            with self.assertRaises(Missing) as caught:
                self.book.tree(name)
            self.assertEqual(caught.exception.name, name)
        with self.assertRaises(Missing):
            Book([]).tree("f")

    def test_a_book_stays_as_it_was_made(self):
        works = [FULL, EMPTY]
        book = Book(works)
        text = str(book)
        works.append(work(name="h"))
        works[0] = work(name="k")
        del works[1]
        self.assertEqual(book.names(), ["f", "g"])
        self.assertEqual(len(book), 2)
        self.assertEqual(book.tree("f"), FULL)
        self.assertEqual(str(book), text)
        self.assertEqual(book, Book([FULL, EMPTY]))

    def test_the_list_handed_in_is_not_changed(self):
        works = [FULL, EMPTY]
        Book(works).names()
        self.assertEqual(works, [FULL, EMPTY])

    def test_two_books_of_one_list_have_nothing_in_common(self):
        works = [EMPTY]
        one = Book(works)
        works.append(FULL)
        self.assertEqual((len(one), len(Book(works))), (1, 2))

    def test_len_and_truth(self):
        self.assertEqual(len(self.book), 3)
        self.assertEqual(len(Book([])), 0)
        self.assertFalse(Book([]))
        self.assertTrue(Book([EMPTY]))

    def test_repr(self):
        self.assertEqual(repr(self.book), "Book(f, g, h)")
        self.assertEqual(repr(Book([EMPTY])), "Book(g)")
        self.assertEqual(repr(Book([])), "Book()")


class Equal(unittest.TestCase):
    def test_equal_books(self):
        for works in ([], [EMPTY], [FULL, EMPTY]):
            self.assertTrue(Book(works) == Book(copy.deepcopy(works)))
            self.assertFalse(Book(works) != Book(copy.deepcopy(works)))

    def test_unlike_books(self):
        books = [Book([]), Book([EMPTY]), Book([FULL, EMPTY]), Book([EMPTY, FULL]), Book([work()]),
                 Book([work(room=1)]), Book([work(names=("a",))]), Book([work(PUT)]), Book([work(PUT, PUT)]),
                 Book([work(("put", "a", A))]), Book([work(if_row([PUT]))]), Book([work(if_row([], [PUT]))]),
                 Book([work(("give", ("+", ONE, A)))]), Book([work(("give", ("+", A, ONE)))])]
        for at, one in enumerate(books):
            for place, other in enumerate(books):
                self.assertEqual(one == other, at == place)
                self.assertEqual(one != other, at != place)

    def test_beside_things_that_are_none(self):
        for works in ([], [EMPTY]):
            book = Book(works)
            for thing in (works, tuple(works), str(book), repr(book), len(book), None, True, False, 0, [], (), "",
                          book.names()):
                self.assertFalse(book == thing)
                self.assertFalse(thing == book)
                self.assertTrue(book != thing)

    def test_in_a_list(self):
        book = Book([EMPTY])
        self.assertIn(book, [None, 0, Book([EMPTY])])
        self.assertNotIn(book, [None, 0, "", [EMPTY], Book([]), Book([FULL, EMPTY])])
        self.assertEqual([None, [], Book([]), book].index(Book([EMPTY])), 3)
        self.assertEqual([Book([]), book], [Book([]), Book([EMPTY])])


if __name__ == "__main__":
    unittest.main()
