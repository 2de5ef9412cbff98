"""Points 2 and 22 (with 6, 7, 9, 10 and 18): the desk's rows, how it writes, what it refuses, and undo."""

import unittest

from stealhall.desk import Desk
from stealhall.errors import BadArgs, BadHall, BadText, BadTurn, Missing, NoRow, Spent, StealError
from stealhall.reading import read_book
from tests.samples import WORDS, main

GREAT = "9" * 30
FIB = ["work fib(n) room 3", "if n < 2", "give n", "end", "go a fib(n - 1)", "call b fib(n - 2)", "wait a a", "give a + b"]
PAIR = ["work main() room 2", "go a slow()", "go b slow()", "wait a a", "wait b b", "give a - b", "work slow() room 1",
        "x = 1", "give x"]


def desk_with(**texts):
    """A desk with these texts, told by their lines."""
    desk = Desk()
    for name, lines in texts.items():
        for line in lines:
            desk.say(f"line {name} {line}")
    return desk


class DeskTest(unittest.TestCase):
    def answers(self, desk, *pairs):
        """Tell rows, each behind `: ` with its answer."""
        for pair in pairs:
            row, _, answer = pair.partition(": ")
            self.assertEqual(desk.say(row), answer, row)

    def refuses(self, desk, row, error=NoRow):
        with self.assertRaises(StealError if issubclass(error, StealError) else error) as caught:
            desk.say(row)
        self.assertIs(type(caught.exception), error, row)
        return caught.exception


class Texts(DeskTest):
    def test_line(self):
        desk = Desk()
        self.answers(desk, "line a work f() room 0: ok", "line a   give 1: ok", "text a: work f() room 0 /   give 1")

    def test_rest_without_signs(self):
        desk = Desk()
        self.assertEqual(desk.say("line a "), "ok")
        self.answers(desk, "text a: -")
        self.assertEqual(desk.say("line a "), "ok")
        self.answers(desk, "text a: -", "line a work f() room 0: ok", "line a give x y: ok")
        self.assertEqual(self.refuses(desk, "text a", BadText).row, 4)

    def test_rest_with_blanks_ahead_and_behind(self):
        desk = Desk()
        for row in ("line a    work f()room 0   ", "line a   ", "line a        give     1+2    "):
            self.assertEqual(desk.say(row), "ok")
        self.answers(desk, "text a: work f() room 0 /   give 1 + 2")

    def test_rest_of_any_signs(self):
        desk = Desk()
        signs = "".join(chr(number) for number in range(32, 127) if chr(number) != "%")
        self.assertEqual(desk.say("line a " + signs), "ok")
        self.assertEqual(self.refuses(desk, "text a", BadText).row, 1)

    def test_a_long_rest(self):
        desk = Desk()
        self.assertEqual(desk.say("line a " + " " * 9000), "ok")
        self.answers(desk, "text a: -")

    def test_text(self):
        lines = ["work main(n) room 7", "if n<1", "a=2", "else", "a = (3)", "end", "", "go b other( )",
                 "wait c b else(1 < 2)", "give c-(a - 1)", "work other() room 12"]
        self.answers(desk_with(t=lines), "text t: work main(n) room 7 /   if n < 1 /     a = 2 /   else /     a = 3 /   end / "
                     "  go b other() /   wait c b else 1 < 2 /   give c - (a - 1) / work other() room 12")

    def test_texts_by_their_names(self):
        desk = desk_with(a=["work f() room 1"], b=["work g() room 2"], abcdefgh=[""], text=["work h() room 3"])
        self.answers(desk, "text a: work f() room 1", "text b: work g() room 2", "text abcdefgh: -",
                     "text text: work h() room 3", "line a give 4: ok", "text a: work f() room 1 /   give 4",
                     "text b: work g() room 2")

    def test_a_text_and_a_hall_of_one_name(self):
        desk = desk_with(a=["work f() room 1"])
        self.answers(desk, "open a a 1 - f: ok", "text a: work f() room 1", "show a: .", "turn a 0 -: 0 step . 0",
                     "text a: work f() room 1", "show a: done gives 0")

    def test_texts_and_halls_are_not_taken_for_one_another(self):
        desk = desk_with(a=["work f() room 1"])
        self.assertEqual(self.refuses(desk, "show a", Missing).name, "a")
        self.answers(desk, "open b a 1 - f: ok")
        self.assertEqual(self.refuses(desk, "text b", Missing).name, "b")


class Runs(DeskTest):
    def test_results(self):
        for rows, answer in ((["give 5"], "gives 5 1 2"), (["give 0 - 5"], "gives -5 1 2"), (["fail 7"], "fails 7 1 2"),
                             (["give x"], "fails -1 1 2"), ([], "gives 0 1 2"), (["go a f()", "give a"], "gives future 0 3 5"),
                             (["go a f()", "go b f()", "give b"], "gives future 1 5 5"),
                             (["go a g()", "wait b a", "give b"], "gives future 0.0 6 6"),
                             ([f"give {GREAT}"], f"gives {GREAT} 1 2"), ([f"fail 0 - {GREAT}"], f"fails -{GREAT} 1 2")):
            desk = desk_with(t=["work main() room 2", *rows, "work f() room 3", "work g() room 1", "go a f()", "give a"])
            self.assertEqual(desk.say("run t main"), answer)

    def test_numbers(self):
        desk = desk_with(t=["work f(a, b, c, d) room 0", "give a * 1000 + b * 100 + c * 10 + d", "work g(n) room 1", "give n"])
        self.answers(desk, "run t f 1 2 3 4: gives 1234 1 0", "run t f -1 0 0 5: gives -995 1 0",
                     f"run t g {GREAT}: gives {GREAT} 1 1", f"run t g -{GREAT}: gives -{GREAT} 1 1", "run t g 0: gives 0 1 1")

    def test_fib(self):
        self.answers(desk_with(t=FIB), "run t fib 4: gives 3 30 12", "run t fib 0: gives 0 2 3")

    def test_what_the_run_refuses(self):
        desk = desk_with(t=FIB)
        self.assertEqual(self.refuses(desk, "run t fob 1", Missing).name, "fob")
        self.refuses(desk, "run t fib", BadArgs)
        self.refuses(desk, "run t fib 1 2", BadArgs)
        self.refuses(desk, "run t fib 1 2 3 4 5 6", BadArgs)
        self.assertEqual(self.refuses(desk, "run t fib 20", Spent).steps, 400)
        self.refuses(desk, "run t fob 1 2", Missing)

    def test_a_name_that_is_a_row_s_word(self):
        desk = desk_with(line=["work open() room 1", "work undo(run) room 2", "give run"])
        self.answers(desk, "run line open: gives 0 1 1", "run line undo 7: gives 7 1 2")


class Halls(DeskTest):
    def test_each_kind_of_turn(self):
        desk = desk_with(t=PAIR)
        self.answers(desk, "open h t 2 - main: ok", "show h: . -", "turn h 1 -: 1 rest - -", "turn h 1 0: 1 rest - 0",
                     "turn h 0 -: 0 step . 0", "show h: 0 -", "turn h 1 0: 1 steal . 0", "show h: 0 .",
                     "turn h 1 0: 1 step . 1", "show h: 0 1", "turn h 1 -: 1 step 1 0", "turn h 1 -: 1 step 1 1",
                     "turn h 1 -: 1 park . 0", "show h: 0 -", "turn h 0 1: 0 step 0 0", "turn h 0 -: 0 step 0 1",
                     "show h: . -", "turn h 0 -: 0 step . 2", "turn h 0 -: 0 step . 3", "turn h 0 -: 0 step . 4",
                     "show h: done gives 0", "turn h 0 -: 0 rest - -", "turn h 1 0: 1 rest - 0")

    def test_a_limit(self):
        desk = desk_with(t=PAIR)
        self.answers(desk, "open h t 2 3 main: ok", "turn h 0 -: 0 step . 0", "turn h 1 -: 1 steal . 0",
                     "turn h 1 -: 1 aside . -", "show h: 0 -", "turn h 0 -: 0 step 0 0", "turn h 0 -: 0 step 0 1", "show h: - -",
                     "turn h 1 -: 1 lift . -", "show h: - .")
        self.answers(desk, "open h t 2 4 main: ok", "turn h 0 -: 0 step . 0", "turn h 1 -: 1 steal . 0", "turn h 1 -: 1 step . 1")
        self.answers(desk, "open h t 2 0 main: ok", "open h t 8 1000000000 main: ok", "show h: . - - - - - - -")

    def test_longer_paths(self):
        desk = desk_with(t=["work f(n) room 0", "if n", "go a f(n - 1)", "wait b a", "end"])
        self.answers(desk, "open h t 3 - f 3: ok", "rounds h 1: 3", "turn h 0 -: 0 step . 1", "turn h 0 -: 0 step 0 0",
                     "turn h 0 -: 0 step 0 1", "turn h 2 -: 2 steal . 0", "turn h 1 -: 1 steal 0 0", "turn h 1 -: 1 park 0 0.0",
                     "turn h 0 -: 0 step 0.0 0", "turn h 0 -: 0 step 0.0 1", "show h: 0.0.0 - .")

    def test_rounds(self):
        desk = desk_with(t=PAIR)
        self.answers(desk, "open h t 2 - main: ok", "rounds h 0: 0", "show h: . -", "rounds h 1: 2", "show h: 0 .",
                     "rounds h 2: 4", "rounds h 9999: 8", "show h: done gives 0", "rounds h 9999: 0", "rounds h 0: 0")

    def test_show(self):
        for rows, answer in ((["give 3"], "done gives 3"), (["fail 0 - 3"], "done fails -3"),
                             (["go a f()", "give a"], "done gives future 0")):
            desk = desk_with(t=["work main() room 0", *rows, "work f() room 0"])
            desk.say("open h t 1 - main")
            self.answers(desk, "show h: .")
            desk.say("rounds h 9")
            self.assertEqual(desk.say("show h"), answer)

    def test_a_main_task_that_has_ended_is_not_all(self):
        desk = desk_with(t=["work main() room 0", "go a f()", "work f() room 0", "x = 1"])
        self.answers(desk, "open h t 2 - main: ok", "turn h 0 -: 0 step . 0", "turn h 1 0: 1 steal . 0", "turn h 1 0: 1 step . 1",
                     "show h: 0 -", "rounds h 5: 4", "show h: done gives 0")

    def test_a_hall_opened_anew(self):
        desk = desk_with(t=PAIR, f=FIB)
        self.answers(desk, "open h t 2 - main: ok", "turn h 0 -: 0 step . 0", "open h f 3 - fib 1: ok", "show h: . - -",
                     "rounds h 9: 6", "show h: done gives 1", "open h t 2 - main: ok", "show h: . -")

    def test_a_hall_keeps_the_book_as_it_read_then(self):
        desk = desk_with(t=["work f() room 0", "give 1"])
        self.answers(desk, "open h t 1 - f: ok", "line t no such row: ok")
        self.refuses(desk, "text t", BadText)
        self.answers(desk, "show h: .", "turn h 0 -: 0 step . 0", "show h: done gives 1")
        desk = desk_with(t=["work f() room 0"])
        self.answers(desk, "open h t 1 - f: ok", "line t give 5: ok", "open i t 1 - f: ok", "rounds h 1: 1", "rounds i 1: 1",
                     "show h: done gives 0", "show i: done gives 5")

    def test_several_halls(self):
        desk = desk_with(t=PAIR)
        self.answers(desk, "open h t 2 - main: ok", "open i t 2 - main: ok", "turn h 0 -: 0 step . 0", "show h: 0 -", "show i: . -",
                     "rounds i 1: 2", "show h: 0 -", "show i: 0 .")

    def test_numbers_of_the_work(self):
        desk = desk_with(t=["work f(a, b) room 0", "give a - b"])
        self.answers(desk, "open h t 1 - f -5 7: ok", "rounds h 1: 1", "show h: done gives -12",
                     f"open h t 1 - f {GREAT} 0: ok", "rounds h 1: 1", f"show h: done gives {GREAT}")

    def test_what_the_hall_refuses(self):
        desk = desk_with(t=FIB)
        self.assertEqual(self.refuses(desk, "open h t 2 - fob 1", Missing).name, "fob")
        self.refuses(desk, "open h t 2 - fib", BadArgs)
        self.refuses(desk, "open h t 2 - fib 1 2", BadArgs)
        for workers in ("0", "9", "-1", GREAT):
            self.refuses(desk, f"open h t {workers} - fib 1", BadHall)
        for limit in ("-1", "1000000001", GREAT):
            self.refuses(desk, f"open h t 2 {limit} fib 1", BadHall)
        self.assertEqual(self.refuses(desk, "open h t 2 - fib 20", Spent).steps, 400)
        self.refuses(desk, "open h t 0 - fob 1 2", Missing)
        self.refuses(desk, "open h t 0 - fib 1 2", BadArgs)
        self.refuses(desk, "open h t 0 - fib 20", BadHall)
        self.assertEqual(self.refuses(desk, "show h", Missing).name, "h")

    def test_what_a_turn_refuses(self):
        desk = desk_with(t=PAIR)
        desk.say("open h t 2 - main")
        for worker, victim in (("2", "-"), ("-1", "-"), ("8", "-"), (GREAT, "0"), ("0", "0"), ("1", "1"), ("0", "2"), ("0", "-1")):
            self.assertEqual(self.refuses(desk, f"turn h {worker} {victim}", BadTurn).at, 0)
        self.answers(desk, "show h: . -", "turn h 0 -: 0 step . 0")


class WrongRows(DeskTest):
    # Rows that would be answered by the desk of setUp.
    GOOD = ("text t", "run t fib 4", "open i t 2 - fib 4", "open i t 2 5 fib 4", "turn h 0 -", "turn h 0 1", "rounds h 1", "show h",
            "undo")

    def setUp(self):
        self.desk = desk_with(t=FIB)
        self.desk.say("open h t 2 - fib 4")

    def wrong(self, *rows):
        """These rows are refused, and nothing changes by them."""
        before = [self.desk.say(row) for row in ("text t", "show h", "run t fib 3")]
        for row in rows:
            self.refuses(self.desk, row)
        self.assertEqual([self.desk.say(row) for row in ("text t", "show h", "run t fib 3")], before)

    def test_the_good_ones(self):
        for row in self.GOOD:
            self.setUp()
            self.assertIsInstance(self.desk.say(row), str)

    def test_no_such_word(self):
        self.wrong("", " ", "  ", "t", "undone", "und", "help", "lines t x", "texts t", "-", "0", "fib 4", "linet x")

    def test_words_lacking(self):
        self.wrong("line", "line ", "line t", "text", "text ", "run", "run t", "run t ", "open", "open i", "open i t", "open i t 2",
                   "open i t 2 -", "open i t 2 - ", "turn", "turn h", "turn h 0", "turn h 0 ", "rounds", "rounds h", "rounds h ",
                   "show", "show ")

    def test_words_too_many(self):
        for row in self.GOOD:
            if not row.startswith(("run", "open")):
                self.wrong(row + " t", row + " 0", row + " -", row + " ")
            else:
                self.wrong(row + " t", row + " -", row + " ")

    def test_blanks(self):
        for row in self.GOOD + ("line t x",):
            self.wrong(" " + row)
            if " " in row and not row.startswith("line"):
                for at in range(len(row)):
                    if row[at] == " ":
                        self.wrong(row[:at] + " " + row[at:])
        self.wrong("line  t x", "line  x", "line   ")

    def test_great_letters(self):
        for row in self.GOOD + ("line t x",):
            self.wrong(row.capitalize(), row.split(" ")[0].upper() + row[len(row.split(" ")[0]):])
        self.wrong("text T", "line T x", "run t Fib 4", "run T fib 4", "show H", "turn H 0 -", "open I t 2 - fib 4")

    def test_names_that_are_none(self):
        for name in WORDS + ("abcdefghi", "a1", "1", "a-b", "-", "", "A", "a.b", "0", "a_b", "a,"):
            self.wrong(f"line {name} x", f"text {name}", f"run {name} fib 4", f"run t {name} 4", f"open {name} t 2 - fib 4",
                       f"open i {name} 2 - fib 4", f"open i t 2 - {name} 4", f"turn {name} 0 -", f"rounds {name} 1", f"show {name}")

    def test_numbers_that_are_none(self):
        for number in ("00", "01", "007", "+1", "+0", "-0", "-01", "--1", "1" * 31, "-" + "1" * 31, "0" * 31, "1.0", "1e3", "0x1",
                       "1_0", "a", "", "- 1", "1-", "1 ", "None", "True", "(1)"):
            self.wrong(f"run t fib {number}", f"open i t {number} - fib 4", f"open i t 2 {number} fib 4",
                       f"open i t 2 - fib {number}", f"turn h {number} -", f"turn h 0 {number}", f"rounds h {number}")
        self.wrong("run t fib 4 01", "run t fib -", "run t fib 4 -", "open i t - - fib 4", "turn h - -", "rounds h -",
                   "open i t 2 - fib -")

    def test_rounds_out_of_bounds(self):
        self.wrong("rounds h -1", "rounds h 10000", "rounds h 99999", f"rounds h {GREAT}", f"rounds h -{GREAT}")
        self.assertEqual(self.desk.say("rounds h 0"), "0")
        self.assertNotEqual(self.desk.say("rounds h 9999"), "0")

    def test_row_ends(self):
        for row in self.GOOD + ("line t x", "line t "):
            self.wrong(row + "\n", "\n" + row, row.replace(" ", "\n", 1) if " " in row else row + "\nundo")
        self.wrong("line t x\ny", "line t \n", "line\nt x", "\n")

    def test_missing(self):
        for row in ("text x", "run x fib 4", "open h x 2 - fib 4", "open i x 2 - fib 4", "turn x 0 -", "rounds x 1", "show x"):
            self.assertEqual(self.refuses(self.desk, row, Missing).name, "x")
        self.assertEqual(self.refuses(Desk(), "text t", Missing).name, "t")

    def test_a_text_that_can_not_be_read(self):
        desk = desk_with(t=["work f() room 1", "give 1", "give"], u=["work f() room 1", "go a g()"], v=["work f() room 1", "go a f(1)"])
        for row in ("text {}", "run {} f", "open h {} 2 - f"):
            self.assertEqual(self.refuses(desk, row.format("t"), BadText).row, 3)
            self.assertEqual(self.refuses(desk, row.format("u"), Missing).name, "g")
            self.assertEqual(self.refuses(desk, row.format("v"), BadText).row, 2)

    def test_which_goes_first(self):
        self.refuses(self.desk, "text X")
        self.refuses(self.desk, "run x FIB 4")
        self.refuses(self.desk, "run x fib 04")
        self.refuses(self.desk, "rounds x 10000")
        self.refuses(self.desk, "turn x 9 -0")
        self.refuses(self.desk, "open i x 9 -1 fib 04")
        bad = desk_with(t=["work f() room 1", "give"])
        self.refuses(bad, "run t F")
        self.refuses(bad, "run u f", Missing)
        self.refuses(bad, "run t g 1", BadText)
        self.refuses(bad, "open h t 9 - g 1", BadText)
        self.refuses(self.desk, "turn x 9 9", Missing)
        self.refuses(self.desk, "open i x 9 - fob", Missing)

    def test_a_refused_row_changes_nothing(self):
        desk = desk_with(t=PAIR)
        self.answers(desk, "open h t 2 - main: ok", "turn h 0 -: 0 step . 0")
        for row, error in (("open h t 9 - main", BadHall), ("open h t 2 - main 1", BadArgs), ("open h t 2 - nope", Missing),
                           ("open h u 2 - main", Missing), ("turn h 2 -", BadTurn), ("rounds h 10000", NoRow),
                           ("line t", NoRow), ("line t a\nb", NoRow), ("run t main 1", BadArgs), ("undo undo", NoRow)):
            self.refuses(desk, row, error)
            self.answers(desk, "show h: 0 -")
        self.answers(desk, "turn h 1 -: 1 steal . 0", "undo: ok", "show h: 0 -", "undo: ok", "show h: . -")


class Undo(DeskTest):
    def test_none(self):
        desk = Desk()
        self.refuses(desk, "undo")
        self.answers(desk, "line a x: ok", "undo: ok")
        self.refuses(desk, "undo")
        self.refuses(desk, "text a", Missing)

    def test_line(self):
        desk = Desk()
        self.answers(desk, "line a work f() room 0: ok", "line a give 1: ok", "line a give 2: ok", "undo: ok",
                     "text a: work f() room 0 /   give 1", "undo: ok", "text a: work f() room 0", "line a give 3: ok",
                     "text a: work f() room 0 /   give 3", "undo: ok", "undo: ok")
        self.refuses(desk, "text a", Missing)
        self.assertEqual(desk.say("line a "), "ok")
        self.answers(desk, "text a: -")

    def test_open(self):
        desk = desk_with(t=PAIR)
        self.answers(desk, "open h t 2 - main: ok", "undo: ok")
        self.refuses(desk, "show h", Missing)
        self.answers(desk, "open h t 2 - main: ok", "turn h 0 -: 0 step . 0", "open h t 3 - main: ok", "show h: . - -", "undo: ok",
                     "show h: 0 -", "turn h 1 -: 1 steal . 0", "undo: ok", "undo: ok", "show h: . -")

    def test_a_hall_of_before_comes_back_as_it_was(self):
        desk = desk_with(t=PAIR)
        self.answers(desk, "open h t 2 - main: ok", "rounds h 2: 4", "show h: 0 1", "open h t 1 - main: ok", "rounds h 3: 3",
                     "open h t 3 - main: ok", "turn h 0 -: 0 step . 0", "undo: ok", "undo: ok", "show h: .", "undo: ok",
                     "show h: .", "undo: ok", "show h: 0 1", "undo: ok", "show h: . -")

    def test_turn(self):
        desk = desk_with(t=PAIR)
        rows = ["turn h 0 -: 0 step . 0", "turn h 1 0: 1 steal . 0", "turn h 1 -: 1 step . 1", "turn h 0 -: 0 step 0 0",
                "turn h 0 -: 0 step 0 1", "turn h 0 1: 0 steal . 1", "turn h 0 -: 0 park . 1", "turn h 0 -: 0 rest - -"]
        desk.say("open h t 2 - main")
        # (0,) has ended, so main goes over its first wait ahead of the one that parks it.
        rows.insert(6, "turn h 0 -: 0 step . 2")
        shown = []
        for row in rows:
            shown.append(desk.say("show h"))
            self.answers(desk, row)
        for row, before in zip(rows[::-1], shown[::-1]):
            self.answers(desk, "undo: ok", f"show h: {before}", row, "undo: ok", f"show h: {before}")
        self.answers(desk, "undo: ok")
        self.refuses(desk, "show h", Missing)

    def test_rounds(self):
        desk = desk_with(t=PAIR)
        self.answers(desk, "open h t 2 - main: ok", "rounds h 1: 2", "rounds h 9999: 12", "show h: done gives 0", "rounds h 5: 0",
                     "undo: ok", "show h: done gives 0", "undo: ok", "show h: 0 .", "rounds h 0: 0", "undo: ok", "show h: 0 .",
                     "undo: ok", "show h: . -", "undo: ok")
        self.refuses(desk, "show h", Missing)

    def test_past_questions_and_refused_rows(self):
        desk = desk_with(t=PAIR)
        self.answers(desk, "open h t 2 - main: ok", "turn h 0 -: 0 step . 0", "show h: 0 -", "run t main: gives 0 9 3")
        for row in ("turn h 5 -", "nothing", "line t", "open h t 0 - main", "text x", "rounds h -1"):
            with self.assertRaises((StealError, LookupError)):
                desk.say(row)
        desk.say("text t")
        self.answers(desk, "undo: ok", "show h: . -", "show h: . -", "undo: ok")
        self.refuses(desk, "show h", Missing)

    def test_over_all_of_them_back_to_the_first(self):
        desk = Desk()
        rows = [f"line t {line}" for line in PAIR] + ["open h t 2 - main", "turn h 0 -", "line u x", "open h t 3 0 main",
                                                     "rounds h 2", "line t  ", "open i t 1 - main", "turn h 1 0", "rounds i 3"]

        def shown():
            told = []
            for row in ("text t", "text u", "show h", "show i", "run t main"):
                try:
                    told.append(desk.say(row))
                except (StealError, LookupError) as error:
                    told.append(repr(error))
            return told

        states = []
        for row in rows:
            states.append(shown())
            desk.say(row)
        last = shown()
        for before in states[::-1]:
            self.answers(desk, "undo: ok")
            self.assertEqual(shown(), before)
        self.refuses(desk, "undo")
        for row in rows:
            desk.say(row)
        self.assertEqual(shown(), last)

    def test_undo_is_not_undone(self):
        desk = Desk()
        self.answers(desk, "line a work f() room 0: ok", "line a give 1: ok", "undo: ok", "undo: ok")
        self.refuses(desk, "undo")

    def test_what_is_done_behind_an_undo(self):
        desk = desk_with(t=PAIR)
        self.answers(desk, "open h t 2 - main: ok", "turn h 0 -: 0 step . 0", "turn h 1 -: 1 steal . 0", "undo: ok",
                     "turn h 0 -: 0 step 0 0", "show h: 0 -", "undo: ok", "undo: ok", "show h: . -", "rounds h 1: 2", "undo: ok",
                     "show h: . -")

    def test_many(self):
        desk = desk_with(t=PAIR)
        desk.say("open h t 2 - main")
        for _ in range(600):
            desk.say("turn h 0 -")
        for _ in range(600):
            desk.say("undo")
        self.answers(desk, "show h: . -")


class Desks(DeskTest):
    def test_two_desks_are_apart(self):
        one, other = desk_with(t=PAIR), Desk()
        self.refuses(other, "text t", Missing)
        self.refuses(other, "undo")
        other.say("line t work f() room 9")
        self.answers(other, "open h t 1 - f: ok", "text t: work f() room 9", "rounds h 1: 1", "show h: done gives 0")
        self.refuses(one, "show h", Missing)
        self.answers(one, "open h t 2 - main: ok", "show h: . -")
        self.answers(other, "undo: ok", "show h: .")
        self.answers(one, "show h: . -")

    def test_a_book_s_text_is_read_again_as_the_same(self):
        lines = main("go a f(1 + 2 * 3)", "if a < 1", "fail 2", "else", "give (1 + 2) * 3", "end").split("\n")
        lines += ["work f(n) room 1000", "wait n n else n == 1"]
        desk = desk_with(t=lines)
        text = desk.say("text t").replace(" / ", "\n")
        self.assertEqual(text, str(read_book("\n".join(lines))))
        self.assertEqual(desk_with(u=text.split("\n")).say("text u"), desk.say("text t"))


if __name__ == "__main__":
    unittest.main()
