"""Point 6: how expressions, works and books are written."""

import ast
import copy
import unittest

from stealhall.forms import Book
from stealhall.writing import show_expression, show_work
from tests.samples import A, EMPTY, FULL, GIVE, ONE, PUT, SIGNS, if_row, nested_ifs, work

TWO = ("number", 2)
THREE = ("number", 3)
PYTHON_SIGNS = {ast.Add: "+", ast.Sub: "-", ast.Mult: "*", ast.Lt: "<", ast.Eq: "=="}


class NoExpression(Exception):
    pass


def read(text):
    """The tree of an expression's text; Python's own signs bind as the document's do."""
    try:
        return read_node(ast.parse(text, mode="eval").body, text)
    except SyntaxError:
        raise NoExpression(text) from None


def read_node(node, text):
    if isinstance(node, ast.Constant) and isinstance(node.value, int):
        return ("number", node.value)
    if isinstance(node, ast.Name):
        return ("name", node.id)
    if isinstance(node, ast.BinOp):
        return (PYTHON_SIGNS[type(node.op)], read_node(node.left, text), read_node(node.right, text))
    if isinstance(node, ast.Compare) and len(node.ops) == 1:
        return (PYTHON_SIGNS[type(node.ops[0])], read_node(node.left, text), read_node(node.comparators[0], text))
    raise NoExpression(text)


def bracket_pairs(text):
    begun = []
    pairs = []
    for at, sign in enumerate(text):
        if sign == "(":
            begun.append(at)
        elif sign == ")":
            pairs.append((begun.pop(), at))
    return pairs


def without_pair(text, pair):
    first, last = pair
    return text[:first] + text[first + 1:last] + text[last + 1:]


def has_needless_pair(text):
    tree = read(text)
    for pair in bracket_pairs(text):
        try:
            if read(without_pair(text, pair)) == tree:
                return True
        except NoExpression:
            pass
    return False


def trees_up_to(depth):
    """Every expression over 1 and a that is at most so deep."""
    if depth == 1:
        return [ONE, A]
    parts = trees_up_to(depth - 1)
    return [ONE, A] + [(sign, left, right) for sign in SIGNS for left in parts for right in parts]


class Expressions(unittest.TestCase):
    def shown(self, tree, text):
        before = copy.deepcopy(tree)
        self.assertEqual(show_expression(tree), text)
        self.assertEqual(tree, before)

    def test_numbers_and_names(self):
        self.shown(("number", 0), "0")
        self.shown(("number", 10), "10")
        self.shown(("number", 10 ** 30 - 1), "9" * 30)
        self.shown(("name", "a"), "a")
        self.shown(("name", "abcdefgh"), "abcdefgh")

    def test_each_sign(self):
        for sign in SIGNS:
            self.shown((sign, ONE, A), f"1 {sign} a")

    def test_left_and_right_of_each_sign(self):
        on_left = {
            "+": {"+": "1 + 2 + 3", "-": "1 - 2 + 3", "*": "1 * 2 + 3", "<": "(1 < 2) + 3", "==": "(1 == 2) + 3"},
            "-": {"+": "1 + 2 - 3", "-": "1 - 2 - 3", "*": "1 * 2 - 3", "<": "(1 < 2) - 3", "==": "(1 == 2) - 3"},
            "*": {"+": "(1 + 2) * 3", "-": "(1 - 2) * 3", "*": "1 * 2 * 3", "<": "(1 < 2) * 3", "==": "(1 == 2) * 3"},
            "<": {"+": "1 + 2 < 3", "-": "1 - 2 < 3", "*": "1 * 2 < 3", "<": "(1 < 2) < 3", "==": "(1 == 2) < 3"},
            "==": {"+": "1 + 2 == 3", "-": "1 - 2 == 3", "*": "1 * 2 == 3", "<": "(1 < 2) == 3",
                   "==": "(1 == 2) == 3"},
        }
        on_right = {
            "+": {"+": "1 + (2 + 3)", "-": "1 + (2 - 3)", "*": "1 + 2 * 3", "<": "1 + (2 < 3)", "==": "1 + (2 == 3)"},
            "-": {"+": "1 - (2 + 3)", "-": "1 - (2 - 3)", "*": "1 - 2 * 3", "<": "1 - (2 < 3)", "==": "1 - (2 == 3)"},
            "*": {"+": "1 * (2 + 3)", "-": "1 * (2 - 3)", "*": "1 * (2 * 3)", "<": "1 * (2 < 3)",
                  "==": "1 * (2 == 3)"},
            "<": {"+": "1 < 2 + 3", "-": "1 < 2 - 3", "*": "1 < 2 * 3", "<": "1 < (2 < 3)", "==": "1 < (2 == 3)"},
            "==": {"+": "1 == 2 + 3", "-": "1 == 2 - 3", "*": "1 == 2 * 3", "<": "1 == (2 < 3)",
                   "==": "1 == (2 == 3)"},
        }
        for sign in SIGNS:
            for other in SIGNS:
                self.shown((sign, (other, ONE, TWO), THREE), on_left[sign][other])
                self.shown((sign, ONE, (other, TWO, THREE)), on_right[sign][other])

    def test_brackets_within_brackets(self):
        self.shown(("*", ("-", ONE, ("-", TWO, ("+", THREE, A))), A), "(1 - (2 - (3 + a))) * a")
        self.shown(("*", A, ("+", ("<", ONE, TWO), ("*", A, A))), "a * ((1 < 2) + a * a)")
        self.shown(("==", ("==", ("<", A, ONE), TWO), ("<", ONE, A)), "((a < 1) == 2) == (1 < a)")
        self.shown(("-", ("-", ("-", ONE, TWO), THREE), ("-", A, ONE)), "1 - 2 - 3 - (a - 1)")

    def test_six_deep_to_the_right(self):
        tree = A
        for sign in ("+", "*", "-", "<", "=="):
            tree = (sign, ONE, tree)
        self.shown(tree, "1 == (1 < 1 - 1 * (1 + a))")

    def test_each_is_read_as_the_same_and_no_brackets_are_needless(self):
        for tree in trees_up_to(3):
            text = show_expression(tree)
            self.assertEqual(read(text), tree, text)
            self.assertFalse(has_needless_pair(text), text)

    def test_deeper_ones_too(self):
        parts = [tree for at, tree in enumerate(trees_up_to(3)) if at % 23 == 0]
        for sign in SIGNS:
            for left in parts:
                for right in parts:
                    text = show_expression((sign, left, right))
                    self.assertEqual(read(text), (sign, left, right), text)
                    self.assertFalse(has_needless_pair(text), text)


class Rows(unittest.TestCase):
    def shown(self, row, *lines):
        self.assertEqual(show_work(work(row)), "\n".join(["work f() room 0"] + ["  " + line for line in lines]))

    def test_put_give_fail(self):
        self.shown(("put", "a", ("+", A, ONE)), "a = a + 1")
        self.shown(("put", "abcdefgh", ("==", A, ONE)), "abcdefgh = a == 1")
        self.shown(("give", ("*", A, ("+", ONE, A))), "give a * (1 + a)")
        self.shown(("give", ONE), "give 1")
        self.shown(("fail", ("-", A, ONE)), "fail a - 1")

    def test_go_and_call(self):
        for word in ("go", "call"):
            self.shown((word, "a", "g", ()), word + " a g()")
            self.shown((word, "a", "g", (ONE,)), word + " a g(1)")
            self.shown((word, "b", "gg", (A, ("<", ONE, TWO), ("*", ("+", ONE, A), TWO), THREE)),
                       word + " b gg(a, 1 < 2, (1 + a) * 2, 3)")

    def test_wait(self):
        self.shown(("wait", "a", "b", None), "wait a b")
        self.shown(("wait", "a", "b", ("number", 0)), "wait a b else 0")
        self.shown(("wait", "b", "a", ("<", A, ("+", ONE, A))), "wait b a else a < 1 + a")

    def test_if(self):
        self.shown(if_row([PUT]), "if 1", "  a = 1", "end")
        self.shown(if_row([PUT, GIVE], condition=("<", A, ONE)), "if a < 1", "  a = 1", "  give a", "end")
        self.shown(if_row([PUT], [GIVE, PUT]), "if 1", "  a = 1", "else", "  give a", "  a = 1", "end")

    def test_bare_if(self):
        self.shown(if_row(), "if 1", "end")
        self.shown(if_row([], [PUT]), "if 1", "else", "  a = 1", "end")

    def test_ifs_within_one_another(self):
        self.shown(nested_ifs(3), "if 1", "  if 1", "    if 1", "      a = 1", "    end", "  end", "end")
        self.shown(nested_ifs(3, True), "if 1", "else", "  if 1", "  else", "    if 1", "    else", "      a = 1",
                   "    end", "  end", "end")
        self.shown(if_row([if_row([PUT], [GIVE]), PUT], [if_row()]), "if 1", "  if 1", "    a = 1", "  else",
                   "    give a", "  end", "  a = 1", "else", "  if 1", "  end", "end")


class Works(unittest.TestCase):
    FULL_TEXT = [
        "work f(a, b) room 7",
        "  c = a + 2 * b",
        "  go d f(0, a - 1)",
        "  call e g()",
        "  wait x d",
        "  wait x d else 3",
        "  if a < 2",
        "    give a",
        "    if 1 == b",
        "    else",
        "      fail 4",
        "    end",
        "  else",
        "    y = 5",
        "  end",
        "  fail x",
    ]

    def test_heads(self):
        self.assertEqual(show_work(work()), "work f() room 0")
        self.assertEqual(show_work(work(names=("a",), room=1)), "work f(a) room 1")
        self.assertEqual(show_work(work(name="abcdefgh", names=("a", "bc", "d", "e"), room=1000)),
                         "work abcdefgh(a, bc, d, e) room 1000")

    def test_each_kind_of_row(self):
        before = copy.deepcopy(FULL)
        self.assertEqual(show_work(FULL), "\n".join(self.FULL_TEXT))
        self.assertEqual(FULL, before)

    def test_depth(self):
        for depth in (0, 1, 2, 20):
            lines = [" " * (2 * depth) + line for line in self.FULL_TEXT]
            self.assertEqual(show_work(FULL, depth=depth), "\n".join(lines))
            self.assertEqual(show_work(EMPTY, depth=depth), " " * (2 * depth) + "work g() room 0")

    def test_str_of_books(self):
        full = "\n".join(self.FULL_TEXT)
        self.assertEqual(str(Book([])), "")
        self.assertEqual(str(Book([EMPTY])), "work g() room 0")
        self.assertEqual(str(Book([FULL, EMPTY])), full + "\nwork g() room 0")
        self.assertEqual(str(Book([EMPTY, FULL])), "work g() room 0\n" + full)
        self.assertEqual(str(Book([EMPTY, work(PUT), work(name="h", names=("n",))])),
                         "work g() room 0\nwork f() room 0\n  a = 1\nwork h(n) room 0")


if __name__ == "__main__":
    unittest.main()
