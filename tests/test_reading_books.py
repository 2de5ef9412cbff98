"""Points 3, 5, 6 and 7: how the text of a book is read, and with which line a text is refused."""

import random
import unittest

from stealhall.errors import BadText, Missing
from stealhall.forms import Book
from stealhall.reading import read_book
from tests.books import random_works
from tests.samples import A, EMPTY, FULL, ONE, PUT, SIGNS, WORDS, deep_expression, if_row, nested_ifs, with_part, work

TWO = ("number", 2)
B = ("name", "b")


class ReadTest(unittest.TestCase):
    def reads(self, text, *works):
        book = read_book(text)
        self.assertIsInstance(book, Book)
        self.assertEqual([book.tree(name) for name in book.names()], list(works), text)

    def reads_row(self, line, row):
        self.reads(f"work f() room 0\n{line}", work(row))

    def refused(self, text, row):
        with self.assertRaises(BadText, msg=text) as caught:
            read_book(text)
        self.assertEqual(caught.exception.row, row, text)

    def line_refused(self, line):
        """The line is refused as a row of a work, wherever it stands, and so are all lines behind it not looked at."""
        self.refused(f"work f() room 0\n{line}", 2)
        self.refused(f"work f() room 0\n  a = 1\n\n{line}\n  give a", 4)
        self.refused(f"work f() room 0\nif a\n{line}\nend\n", 3)
        self.refused(f"work f() room 0\nif a\nelse\n{line}\nend end\n", 4)
        self.refused(f"work f() room 0\n{line}\n{line}\nwork f() room 0", 2)

    def missing(self, text, name):
        with self.assertRaises(Missing, msg=text) as caught:
            read_book(text)
        self.assertEqual(caught.exception.name, name)


def text_of(*lines):
    return "\n".join(lines)


class Rows(ReadTest):
    def test_put(self):
        for line in ("a = 1", "a=1", "  a  =  1  ", "a =1", "a= 1", "a=(1)"):
            self.reads_row(line, PUT)
        self.reads_row("a=b==1", ("put", "a", ("==", B, ONE)))
        self.reads_row("a = b == 1", ("put", "a", ("==", B, ONE)))
        self.reads_row("abcdefgh=b*2", ("put", "abcdefgh", ("*", B, TWO)))
        for line in ("a", "a =", "= 1", "a 1", "a == 1", "a==1", "a = = 1", "a= =1", "a === 1", "a===1", "a ==== 1",
                     "a = 1 2", "a = 1 b", "a = b = 1", "a, b = 1", "(a) = 1", "1 = a", "1 = 1", "a = 1;", "a := 1",
                     "a = ()", "a = 1)", "a = (1", "abcdefghi = 1", "A = 1", "a b = 1", "a + 1", "a = 1 < 2 < 3", "a = 01",
                     "a = -1", "a1 = 1", "a = 1 else 2", "a = 1 end", "a = give", "put a = 1", "a(1) = 1"):
            self.line_refused(line)

    def test_go_and_call(self):
        for word in ("go", "call"):
            self.reads(f"work f() room 0\n{word} a f()", work((word, "a", "f", ())))
            self.reads(f"work f() room 0\n {word}  a  f ( ) ", work((word, "a", "f", ())))
            self.reads(f"work f(n)room 0\n{word} a f(1)", work((word, "a", "f", (ONE,)), names=("n",)))
            self.reads(f"work f(n,m)room 0\n{word} a f(1,b<2)",
                       work((word, "a", "f", (ONE, ("<", B, TWO))), names=("n", "m")))
            self.reads(f"work f(n,m,k,l)room 0\n{word} b f((1) , (b<2) , 1*2,a)",
                       work((word, "b", "f", (ONE, ("<", B, TWO), ("*", ONE, TWO), A)), names=("n", "m", "k", "l")))
            for line in ("", "a", "a f", "a f(", "a f)", "a f(,)", "a f(1,)", "a f(,1)", "a f(1 2)", "a f(1,,2)", "a f()()",
                         "a f() 1", "a f() a", "f()", "(a) f()", "a (f)()", "a f 1", "a = f()", "a f[1]", "a f()room",
                         "a f(1,2,3,4,5)", "a f(1, 2, 3, 4, 5, 6)", "a f(g())", "a f(a b)", "a f() else 1", "a f(a = 1)",
                         "abcdefghi f()", "a abcdefghi()", "a 1()", "1 f()", "a f(01)", "a f(1 < 2 < 3)", "a f(())"):
                self.line_refused(f"{word} {line}")
            self.line_refused(f"{word}a f()")
            self.line_refused(f"{word} af()")
            self.line_refused(f"{word.upper()} a f()")

    def test_wait(self):
        for line in ("wait a b", "  wait   a   b  "):
            self.reads_row(line, ("wait", "a", "b", None))
        for line in ("wait a b else 1", "wait a b else1", "wait a b else(1)", " wait  a  b  else  1 "):
            self.reads_row(line, ("wait", "a", "b", ONE))
        self.reads_row("wait a a", ("wait", "a", "a", None))
        self.reads_row("wait a b else a<1", ("wait", "a", "b", ("<", A, ONE)))
        for line in ("wait", "wait a", "wait a 1", "wait 1 a", "wait a b else", "wait a b 1", "wait a b c", "wait a b elsea",
                     "wait a belse 1", "wait ab", "waita b", "wait a, b", "wait (a) b", "wait a (b)", "wait a b else 1 2",
                     "wait a b else 1 else 2", "wait a b else else", "wait a else 1", "wait a b or 1", "wait a = b",
                     "wait a b()", "wait a b else = 1", "wait a abcdefghi", "wait abcdefghi a"):
            self.line_refused(line)

    def test_give_and_fail(self):
        for word in ("give", "fail"):
            for line in (f"{word} 1", f"{word}1", f"{word}(1)", f" {word}  1 ", f"{word}  ( ( 1 ) ) "):
                self.reads_row(line, (word, ONE))
            self.reads_row(f"{word} a==b", (word, ("==", A, B)))
            for line in (word, f"{word}a", f"{word} a b", f"{word} a = b", f"{word} (", f"{word} ()", f"{word} a, b",
                         f"{word} 1 end", f"{word} {word} 1", f"{word} = 1", f"{word} - 1", f"{word} 00"):
                self.line_refused(line)

    def test_each_place_of_an_expression(self):
        for place in ("a = {}", "go a g({})", "go a h(1, {}, 2)", "call a g({})", "wait a b else {}", "give {}", "fail {}",
                      "if {}"):
            for text in ("a b", "1 < 2 < 3", "", "(a", "a)", "+", "1 +", "01", "9" * 31, "9" * 5000, "abcdefghi", "room",
                         "a*a*a*a*a*a*a", "(" * 9 + "a" + ")" * 9, "a = b", "a > b", "A"):
                if text or "g({})" not in place:
                    self.line_refused(place.format(text))

    def test_brackets_of_heads_goes_and_calls_are_not_counted(self):
        eight = "(" * 8 + "1" + ")" * 8
        for word in ("go", "call"):
            self.reads(f"work f(n, m) room 0\n{word} a f({eight}, {eight})",
                       work((word, "a", "f", (ONE, ONE)), names=("n", "m")))
            self.line_refused(f"{word} a f(({eight}), 1)")
            self.line_refused(f"{word} a f(1, ({eight}))")
        self.reads_row(f"a = {eight}", PUT)
        self.reads_row(f"if{eight}\nend", if_row())

    def test_a_word_in_the_place_of_a_name(self):
        for word in WORDS:
            for line in (f"{word} = 1", f"a = {word}", f"go {word} f()", f"go a {word}()", f"call {word} f()",
                         f"call a {word}()", f"wait {word} a", f"wait a {word}", f"give {word}", f"fail {word}",
                         f"if {word}", f"go a f({word})"):
                self.line_refused(line)
            for name in (word + "s", "x" + word):
                self.reads_row(f"{name} = {name}", ("put", name, ("name", name)))
            self.refused(f"work {word}() room 0", 1)
            self.refused(f"work f({word}) room 0", 1)
            self.refused(f"work f(a, {word}) room 0", 1)

    def test_deep_expressions(self):
        self.reads_row("a = 1+a+a+a+a+a", ("put", "a", deep_expression(6)))
        self.line_refused("a = 1+a+a+a+a+a+a")

    def test_lines_that_are_no_rows(self):
        for line in (",", "(", ")", "=", "==", "1", "0", "+", "a", "()", "a b", "room 3", "room", "f()", "a + 1", "-", "#",
                     "# give 1", "give 1 # one", "end 1", "else 1", "end end", "end else", "else end", "else if 1",
                     "else a = 1", "if", "if 1 2", "if 1 a = 2", "if 1 end", "if 1 else", "if (", "ifa", "IF 1", "End",
                     "worker", "work", "give 1 give 2", "give 1, give 2", "~", "'", '"'):
            self.line_refused(line)


class Heads(ReadTest):
    def test_heads(self):
        for line in ("work f() room 0", "work f()room 0", "work f()room0", "work f ( ) room 0", "  work  f()  room  0  ",
                     "work f( )room   0"):
            self.reads(line, work())
        for line in ("work f(a,b)room 3", "work f(a, b) room 3", "work f( a , b )room3", " work f (a ,b) room 3"):
            self.reads(line, work(names=("a", "b"), room=3))

    def test_heads_that_are_none(self):
        for line in ("work", "work f", "work f()", "work f() room", "work f() 0", "work f room 0", "work () room 0",
                     "workf() room 0", "work f() room a", "work f() room 0 0", "work f() room 0 a", "work f()) room 0",
                     "work f(() room 0", "work f()() room 0", "work f(,) room 0", "work f(a,) room 0", "work f(,a) room 0",
                     "work f(a b) room 0", "work f(a,,b) room 0", "work f(1) room 0", "work f((a)) room 0",
                     "work (f)() room 0", "work f() room (0)", "work f() room = 0", "work f() room -1", "work f() room 00",
                     "work f() room 01", "work f() room 1+1", "work 1() room 0", "work f() roomy 0", "room f() work 0",
                     "Work f() room 0", "work f() room 0 give 1", "work F() room 0", "work abcdefghi() room 0",
                     "work f(abcdefghi) room 0", "work f(A) room 0", "work f(a = 1) room 0", "work work f() room 0",
                     "work f g() room 0", "work f() room 0 end", "work f() room 1 000"):
            self.refused(line, 1)
            self.refused(f"\n  \n{line}\n\nend", 3)
            self.refused(f"work g() room 0\n  a = 1\n{line}\nend", 3)

    def test_rooms(self):
        for room in (0, 1, 9, 10, 999, 1000):
            self.reads(f"work f() room {room}", work(room=room))
        for room in (1001, 1010, 9999, 10000, "1" * 30, "1" * 31, "9" * 5000, "0" * 4, "0001"):
            self.refused(f"work f() room {room}", 1)
            self.refused(f"work g() room 1000\nwork f() room {room}", 2)

    def test_four_names_and_five(self):
        names = ("a", "b", "c", "d", "e")
        for many in range(5):
            self.reads(f"work f({', '.join(names[:many])}) room 0", work(names=names[:many]))
        self.refused(f"work f({', '.join(names)}) room 0", 1)
        self.refused(f"work g() room 0\n\nwork f({','.join(names)}) room 0", 3)

    def test_a_name_twice(self):
        for names in ("a, a", "a, b, a", "b, a, a", "ab,ab", "a, b, c, c"):
            self.refused(f"work f({names}) room 0", 1)
            self.refused(f"work g(a, b) room 0\ngive a\nwork f({names}) room 0\nend", 3)
        self.reads("work f(f) room 0", work(names=("f",)))

    def test_a_works_name_twice(self):
        self.refused("work f() room 0\nwork f() room 0", 2)
        self.refused("work f() room 0\n  give 1\nwork g() room 0\n  give 1\nwork f(a) room 1\n  end", 5)
        self.refused("work g() room 0\n\n\nwork f() room 0\nwork g() room 0\nwork f() room 0", 5)

    def test_twelve_works_and_thirteen(self):
        heads = [f"work {name}() room 0" for name in "abcdefghijklm"]
        self.reads("\n".join(heads[:12]), *[work(name=name) for name in "abcdefghijkl"])
        self.refused("\n".join(heads), 13)
        self.refused("\n".join(head + "\ngive 1\n" for head in heads), 37)
        self.refused("\n\n" + "\n".join(heads) + "\nend", 15)
        self.refused("\n".join(heads[:12]) + "\n" * 5 + "\nwork a() room 0", 18)


class Ifs(ReadTest):
    def test_ifs(self):
        self.reads_row("if 1\nend", if_row())
        self.reads_row("if1\nend", if_row())
        self.reads_row("if(1)\na=1\nend", if_row([PUT]))
        self.reads_row("if 1\na=1\ngive a\nelse\ngive 1\nend", if_row([PUT, ("give", A)], [("give", ONE)]))
        self.reads_row("if 1\nelse\na=1\nend", if_row([], [PUT]))

    def test_an_else_without_rows_behind_it(self):
        self.reads_row("if 1\nelse\nend", if_row())
        self.reads_row("if 1\na = 1\nelse\n\n  \nend", if_row([PUT]))
        self.assertEqual(str(read_book("work f() room 0\nif 1\nelse\nend")), "work f() room 0\n  if 1\n  end")

    def test_ifs_within_one_another(self):
        self.reads_row("if 1\nif 1\nif 1\na = 1\nend\nend\nend", nested_ifs(3))
        self.reads_row("if 1\nelse\nif 1\nelse\nif 1\nelse\na = 1\nend\nend\nend", nested_ifs(3, True))
        self.reads_row("if 1\nif 1\na = 1\nelse\ngive a\nend\na = 1\nelse\nif 1\nend\nend",
                       if_row([if_row([PUT], [("give", A)]), PUT], [if_row()]))
        self.reads("work f() room 0\nif 1\nend\nif 1\nend\na = 1", work(if_row(), if_row(), PUT))

    def test_a_fourth_if_within_three(self):
        for between in ([], ["else"], ["a = 1", "else"], [""]):
            lines = ["work f() room 0"]
            for _ in range(3):
                lines += ["if 1", *between]
            self.refused(text_of(*lines, "if 1", *["end"] * 4), len(lines) + 1)
            read_book(text_of(*lines, "a = 1", "end", "if 1", *["end"] * 3))
        self.refused("work f() room 0\nif 1\nif 1\nif 1\nend\nif 1\nif 1", 7)

    def test_a_second_else(self):
        self.refused("work f() room 0\nif 1\nelse\nelse\nend", 4)
        self.refused("work f() room 0\nif 1\na = 1\nelse\na = 1\n\nelse\na = 1\nend", 7)
        self.refused("work f() room 0\nif 1\nelse\nif 1\nelse\nend\nelse\nend", 7)
        read_book("work f() room 0\nif 1\nelse\nif 1\nelse\nend\nend")
        read_book("work f() room 0\nif 1\nif 1\nelse\nend\nelse\nend")

    def test_an_else_or_end_without_an_if(self):
        for word in ("else", "end"):
            self.refused(word, 1)
            self.refused(f"\n\n {word}\nwork f() room 0", 3)
            self.refused(f"work f() room 0\n{word}", 2)
            self.refused(f"work f() room 0\na = 1\n{word}\ngive 1", 3)
            self.refused(f"work f() room 0\nif 1\nend\n{word}", 4)
            self.refused(f"work f() room 0\nif 1\nelse\nend\n{word}\n", 5)
            self.refused(f"work f() room 0\nif 1\nif 1\nend\nend\n{word}", 6)
            self.refused(f"work f() room 0\nif 1\nend\nwork g() room 0\n{word}", 5)

    def test_an_end_that_is_lacking_at_the_next_head(self):
        self.refused("work f() room 0\nif 1\nwork g() room 0\nend", 3)
        self.refused("work f() room 0\nif 1\n\n\nelse\na = 1\nwork g() room 0\nend", 7)
        self.refused("work f() room 0\nif 1\nif 1\nend\nwork g() room 0", 5)

    def test_an_end_that_is_lacking_at_the_texts_end(self):
        self.refused("work f() room 0\nif 1", 3)
        self.refused("work f() room 0\nif 1\n", 4)
        self.refused("work f() room 0\nif 1\n\n \n", 6)
        self.refused("work f() room 0\nif 1\nelse\na = 1", 5)
        self.refused("work f() room 0\nif 1\nif 1\nend", 5)
        self.refused("work f() room 0\nif 1\nif 1\nif 1", 5)
        self.refused("work g() room 0\nwork f() room 0\nif 1\ngo a nowhere()", 5)


class Counts(ReadTest):
    def test_forty_rows_and_one_more(self):
        rows = ["a = 1"] * 40
        self.reads(text_of("work f() room 0", *rows), work(*[PUT] * 40))
        self.refused(text_of("work f() room 0", *rows, "a = 1"), 42)
        self.refused(text_of("work f() room 0", "", *rows, " ", "a = 1", "end"), 44)
        for line in ("go a f()", "call a f()", "wait a b", "if 1", "give 1", "fail 1"):
            self.refused(text_of("work f() room 0", *rows, line, "end"), 42)

    def test_rows_are_counted_for_each_work(self):
        rows = ["a = 1"] * 40
        self.reads(text_of("work f() room 0", *rows, "work g() room 0", *rows),
                   work(*[PUT] * 40), work(*[PUT] * 40, name="g"))
        self.refused(text_of("work f() room 0", *rows, "work g() room 0", *rows, "give 1"), 83)

    def test_rows_within_ifs(self):
        self.refused(text_of("work f() room 0", "if 1", *["a = 1"] * 40, "end"), 42)
        self.reads(text_of("work f() room 0", "if 1", *["a = 1"] * 39, "end"), work(if_row([PUT] * 39)))
        self.reads(text_of("work f() room 0", "if 1", *["a = 1"] * 19, "else", *["a = 1"] * 20, "end"),
                   work(if_row([PUT] * 19, [PUT] * 20)))
        self.refused(text_of("work f() room 0", "if 1", *["a = 1"] * 19, "else", *["a = 1"] * 21, "end"), 43)
        self.refused(text_of("work f() room 0", "if 1", *["a = 1"] * 39, "end", "a = 1"), 43)

    def test_an_if_is_one_row_and_its_else_and_end_are_none(self):
        self.reads(text_of("work f() room 0", *["if 1", "else", "end"] * 40), work(*[if_row()] * 40))
        self.refused(text_of("work f() room 0", *["if 1", "else", "end"] * 40, "if 1", "end"), 122)
        self.refused(text_of("work f() room 0", *["if 1", "a = 1", "end"] * 20, "a = 1"), 62)

    def test_a_row_ahead_of_any_head(self):
        for line in ("a = 1", "go a f()", "call a f()", "wait a b", "if 1", "else", "end", "give 1", "fail 1"):
            self.refused(line, 1)
            self.refused(f"\n \n{line}\nwork f() room 0", 3)


class Lines(ReadTest):
    def test_the_text_without_signs(self):
        for text in ("", " ", "\n", "\n\n\n", "   \n  \n", " " * 10000, "\n" * 10000):
            book = read_book(text)
            self.assertEqual(len(book), 0)
            self.assertEqual(book, Book([]))

    def test_lines_of_blanks(self):
        told = work(PUT, if_row([PUT], [PUT]))
        lines = ["work f() room 0", "a = 1", "if 1", "a = 1", "else", "a = 1", "end"]
        for blank in ("", " ", "     "):
            self.reads(text_of(blank, *lines), told)
            self.reads(text_of(*lines, blank), told)
            self.reads(text_of(blank, blank, *lines, blank, blank), told)
            self.reads(f"\n{blank}\n".join(lines), told)

    def test_lines_of_blanks_count(self):
        self.refused("\n\n\nx", 4)
        self.refused("  \nwork f() room 0\n\n \nx\n", 5)

    def test_texts_that_end_with_a_row_end(self):
        self.reads("work f() room 0\n", work())
        self.reads("work f() room 0\na = 1\n", work(PUT))
        self.reads("work f() room 0\na = 1\n\n\n", work(PUT))
        self.refused("work f() room 0\nx\n", 2)

    def test_a_line_is_not_parted_elsewhere(self):
        self.refused("work f() room 0 a = 1", 1)
        self.refused("work f() room 0\ngive\n1", 2)
        self.refused("work\nf() room 0", 1)
        self.refused("work f()\nroom 0", 1)
        self.refused("work f(\n) room 0", 1)
        self.refused("work f() room 0\na = 1 +\n1", 2)

    def test_parts_without_blanks_between(self):
        self.reads("work f()room 3", work(room=3))
        self.reads("work f(a,b)room3\nif a<b\ngive(a)*(b)\nelse\nfail(a)\nend\ngive1",
                   work(if_row([("give", ("*", A, B))], [("fail", A)], ("<", A, B)), ("give", ONE), names=("a", "b"), room=3))

    def test_signs_that_no_part_has(self):
        for code in range(ord(" "), ord("~") + 1):
            sign = chr(code)
            if sign.islower() or sign.isdigit() or sign in " (),=+-*<%":
                continue
            for line in (sign, f"a = 1{sign}", f"{sign}a = 1", f"give a {sign} b", f"wait a{sign} b", f"end {sign}"):
                self.refused(f"work f() room 0\n\n{line}\n", 3)
            self.refused(f"work f() room 0{sign}", 1)

    def test_the_first_of_several_bad_lines(self):
        self.refused("work f() room 0\nx\ny", 2)
        self.refused("work f() room 0\na = 1\nend\n#\nelse\n9999", 3)
        self.refused("work f() room 1001\n~", 1)
        self.refused("work f() room 0\nif 1\n~", 3)
        self.refused("work f() room 0\nif 1\nwork f() room 0\n~", 3)


class GoAndCall(ReadTest):
    def test_no_such_work(self):
        for word in ("go", "call"):
            self.missing(f"work f() room 0\n{word} a g()", "g")
            self.missing(f"work f() room 0\n{word} a g(1, 2)", "g")
            self.missing(f"work f() room 0\nif 1\nelse\n{word} a ff()\nend", "ff")
            self.missing(f"work f(g) room 0\n{word} a g()", "g")

    def test_too_many_and_too_few_expressions(self):
        for word in ("go", "call"):
            for handed in range(5):
                head = f"work g({', '.join('abcd'[:handed])}) room 0"
                for many in range(5):
                    start = f"{word} x g({', '.join('1' * many)})"
                    if many == handed:
                        self.assertEqual(len(read_book(f"work f() room 0\n{start}\n{head}")), 2)
                    else:
                        self.refused(f"work f() room 0\n{start}\n{head}", 2)
                        self.refused(f"{head}\nwork f() room 0\n\nif 1\n{start}\nend", 5)
                        self.refused(f"{head}\n\n{start}\n", 3)

    def test_works_of_any_place(self):
        text = "work f() room 0\n go a g(1)\n call a f()\nwork g(n) room 0\n go a f()\n call b g(n)"
        self.assertEqual(read_book(text).names(), ["f", "g"])

    def test_the_first_of_several_from_above(self):
        self.missing("work f() room 0\ngo a x()\ngo a y()\n", "x")
        self.missing("work f() room 0\ngo a x()\ngo a f(1)\n", "x")
        self.refused("work f() room 0\ngo a f(1)\ngo a x()\n", 2)
        self.refused("work f() room 0\ngo a f()\ncall a f(1)\ngo a f(2)\ngo a x()\n", 3)
        self.missing("work f() room 0\nif 1\ngo a x()\nelse\ngo a y()\nend\ngo a z()", "x")
        self.refused("work f() room 0\nif 1\nelse\ngo a f(1)\nend\ngo a z()", 4)
        self.missing("work f() room 0\nif 1\nelse\ngo a y()\nend\ngo a z()", "y")
        self.refused("work f() room 0\nif 1\nif 1\nend\ngo a f(1)\nend\ngo a z()", 5)
        self.missing("work f() room 0\ngo a x()\nwork g() room 0\ngo a f(1)", "x")
        self.refused("work f() room 0\ngo a g(1)\nwork g() room 0\ngo a x()", 2)

    def test_a_bad_line_behind_goes_ahead(self):
        self.refused("work f() room 0\ngo a x()\ngive", 3)
        self.refused("work f() room 0\ngo a f(1)\n\n\nend", 5)
        self.refused("work f() room 0\ngo a x()\nif 1", 4)
        self.refused("work f() room 0\ngo a x()\nwork f() room 0", 3)
        self.refused("work f() room 0\ngo a f(1)\nwork g() room 1001", 3)
        self.refused("work f() room 0\ngo a x(1, 2, 3, 4, 5)", 2)
        self.refused("work f() room 0\ngo a x()\ngo a y(1, 2, 3, 4, 5)", 3)


class ReadAndWritten(ReadTest):
    def same(self, book):
        text = str(book)
        again = read_book(text)
        self.assertEqual(again, book)
        self.assertEqual(str(again), text)

    def test_a_written_book_is_the_same_book(self):
        self.same(Book([]))
        self.same(Book([EMPTY]))
        self.same(Book([FULL, EMPTY]))
        self.same(Book([EMPTY, FULL, work(*[nested_ifs(3), nested_ifs(3, True)] * 5, name="h")]))
        self.same(Book([with_part(FULL, 4, FULL[4][:2] + (("give", ("number", 10 ** 30 - 1)),) * 38)]))

    def test_a_written_book_of_great_works(self):
        tree = ("number", 10 ** 30 - 1)
        for _ in range(5):
            tree = ("-", tree, tree)
        rows = [("go", "abcdefgh", "abcdefgh", (tree,) * 4)] * 40
        names = ("a", "b", "c", "abcdefgh")
        self.same(Book([work(*rows, name="abcdefgh", names=names, room=1000)] +
                       [work(*rows, name=name, names=names) for name in "abcdefghijk"]))

    def test_each_expression(self):
        for sign in SIGNS:
            for left in SIGNS:
                for right in SIGNS:
                    self.same(Book([work(("give", (sign, (left, ONE, A), (right, B, TWO))))]))

    def test_books_of_many_kinds(self):
        chance = random.Random(3)
        for _ in range(150):
            self.same(Book(random_works(chance)))

    def test_other_blanks_and_brackets(self):
        chance = random.Random(4)
        for _ in range(150):
            book = Book(random_works(chance))
            self.assertEqual(read_book(loosened(chance, str(book))), book)


def loosened(chance, text):
    """The text with other blanks, lines of blanks and brackets that need not be."""
    lines = []
    for line in text.split("\n"):
        for word in ("give ", "fail ", "if ", " = ", " else "):
            if word in line and chance.random() < 0.5:
                head, word, tail = line.partition(word)
                many = chance.randint(1, 3)
                line = head + word + "(" * many + tail + ")" * many
                break
        line = "".join(chance.choice(["", " ", "   "]) + sign + chance.choice(["", "  "])
                       if sign in "()+-*<," else sign for sign in line)
        line = line.replace("==", chance.choice(["==", " == ", "   ==  "]))
        lines += [""] * chance.choice((0, 0, 0, 1, 2)) + [chance.choice(["", "  "]) + line.strip() + chance.choice(["", " "])]
    return "\n".join(lines)


class FirstBadLine(ReadTest):
    """The line told is the first up to which the lines are no beginning of a book, as its own words have it."""

    def begins_a_book(self, lines):
        """Whether some ends behind the lines make a book of them, goes and calls left aside."""
        return any(self.is_read(text_of(*lines, *["end"] * many)) for many in range(4))

    def is_read(self, text):
        try:
            read_book(text)
        except BadText:
            return False
        return True

    def test_of_texts_with_a_line_changed(self):
        chance = random.Random(5)
        others = ["end", "else", "if a", "a = 1", "give", "work f() room 0", "work x() room 1", "", "a == 1", "wait a b", "~"]
        refusals = 0
        for _ in range(150):
            lines = str(Book(random_works(chance, starts=False))).split("\n")
            for _ in range(chance.randint(1, 3)):
                at = chance.randrange(len(lines))
                lines[at:at + chance.randint(0, 1)] = [chance.choice(others)]
            try:
                read_book(text_of(*lines))
            except BadText as refusal:
                refusals += 1
                row = refusal.row
                self.assertTrue(self.begins_a_book(lines[:row - 1]), lines)
                self.assertFalse(row <= len(lines) and self.begins_a_book(lines[:row]), lines)
                self.assertLessEqual(row, len(lines) + 1)
        self.assertGreater(refusals, 50)


if __name__ == "__main__":
    unittest.main()
