"""Point 7: how the text of an expression is read, and which texts are refused."""

import ast
import random
import re
import unittest

from stealhall.errors import BadText
from stealhall.reading import read_expression
from stealhall.writing import show_expression
from tests.samples import A, ONE, SIGNS, WORDS, deep_expression

B = ("name", "b")
C = ("name", "c")
TWO = ("number", 2)
THREE = ("number", 3)
PYTHON_SIGNS = {ast.Add: "+", ast.Sub: "-", ast.Mult: "*", ast.Lt: "<", ast.Eq: "=="}


class ReadTest(unittest.TestCase):
    def reads(self, text, tree):
        self.assertEqual(read_expression(text), tree, text)

    def refused(self, text):
        with self.assertRaises(BadText, msg=text) as caught:
            read_expression(text)
        self.assertEqual(caught.exception.row, 1)


class Signs(ReadTest):
    def test_each_sign_with_blanks_and_without(self):
        for sign in SIGNS:
            tree = (sign, A, ONE)
            for text in (f"a {sign} 1", f"a{sign}1", f"a {sign}1", f"a{sign} 1", f"a    {sign}   1", f"  a{sign}1   "):
                self.reads(text, tree)
            self.reads(f"1{sign}a", (sign, ONE, A))
            self.reads(f"1{sign}2", (sign, ONE, TWO))
            self.reads(f"a{sign}b", (sign, A, B))

    def test_a_sign_without_a_part_on_one_side(self):
        for sign in SIGNS:
            for text in (sign, f"a {sign}", f"{sign} a", f"1{sign}", f"{sign}1", f"a {sign} {sign} b", f"a{sign}{sign}b",
                         f"(a {sign})", f"({sign} a)", f"a ({sign}) b", f"a {sign} ()", f"() {sign} a"):
                self.refused(text)

    def test_two_signs_beside_one_another(self):
        for one in SIGNS:
            for other in SIGNS:
                self.refused(f"a {one} {other} b")
                self.refused(f"a{one}{other}b")

    def test_signs_of_equality(self):
        for text in ("a = b", "a=b", "a = = b", "a= =b", "a === b", "a==== b", "a == = b", "a = == b", "=", "==", "===",
                     "a =", "= b", "1 == 2 == 3"):
            self.refused(text)
        self.reads("a==b", ("==", A, B))
        self.reads("a==(b==c)", ("==", A, ("==", B, C)))

    def test_signs_that_no_part_has(self):
        for code in range(ord(" "), ord("~") + 1):
            sign = chr(code)
            if sign.islower() or sign.isdigit() or sign in " (),=+-*<%":
                continue
            for text in (sign, f"a {sign} b", f"a{sign}b", f"{sign}a", f"a{sign}", f"1{sign}2", f"1 {sign}", f"{sign} 1",
                         f"a + {sign}", f"(a{sign})"):
                self.refused(text)

    def test_other_marks(self):
        for text in (",", "a, b", "a,", ",a", "(a, b)", "(a,)", "a b", "a 1", "1 a", "1 2", "a1", "1a", "a(1)", "a()",
                     "f(a)", "1(2)", "(1)(2)", "(1) 2", "2 (1)", "(a)b", "-1", "- 1", "+1", "1 - -1", "1--1", "a<=b",
                     "a<<b", "a>b", "a**b", "a!=b", "1.0", "1_0", "0x1", "1e5", "'a'", '"a"', "#", "a # b", "a;b"):
            self.refused(text)


class Blanks(ReadTest):
    def test_ahead_and_behind(self):
        for text in (" a", "a ", " a ", "     a", "a     ", " " * 5000 + "a" + " " * 4999):
            self.reads(text, A)
        for text in (" 12", "12 ", "  12  "):
            self.reads(text, ("number", 12))
        self.reads("  ( a )  ", A)
        self.reads("  (  a  +  1  )  *  b  ", ("*", ("+", A, ONE), B))

    def test_a_blank_parts_letters_and_figures(self):
        for text in ("a b", "ab c", "1 2", "12 3", "1 0", "0 0", "a b + 1", "1 + 2 3", "a 1", "1 a", "= =", "a = = b"):
            self.refused(text)

    def test_no_signs_and_blanks_alone(self):
        for text in ("", " ", "  ", " " * 10000):
            self.refused(text)

    def test_row_ends(self):
        for text in ("\n", "a\n", "\na", "a\n+ b", "a +\nb", "a + b\n", "\na + b", "(\na)", "a\n\n", " \n a", "a \n ",
                     "1\n2", "ab\ncd"):
            self.refused(text)


class Numbers(ReadTest):
    def test_figures(self):
        for number in (0, 1, 9, 10, 90, 100, 12345678901234567890, 10 ** 29, 10 ** 30 - 1):
            self.reads(str(number), ("number", number))
            self.reads(f"a+{number}*b", ("+", A, ("*", ("number", number), B)))

    def test_noughts_ahead(self):
        for text in ("00", "01", "000", "007", "0123", "00 + 1", "1 + 01", "(00)", "a * 00", "0" * 30, "0" + "1" * 29):
            self.refused(text)
        self.reads("0", ("number", 0))
        self.reads("0+0", ("+", ("number", 0), ("number", 0)))
        self.reads("10-0", ("-", ("number", 10), ("number", 0)))

    def test_thirty_figures_and_31(self):
        self.reads("9" * 30, ("number", 10 ** 30 - 1))
        self.reads("1" + "0" * 29, ("number", 10 ** 29))
        for text in ("1" + "0" * 30, "9" * 31, "1" * 40, "1" * 5000, "9" * 10000, "1 + " + "1" * 31, "1" * 31 + " - a",
                     "(" + "1" * 31 + ")", "0" * 31):
            self.refused(text)


class Names(ReadTest):
    def test_names(self):
        for name in ("a", "z", "m", "ab", "zz", "abcdefg", "abcdefgh", "zyxwvuts", "put", "number", "name", "jump"):
            self.reads(name, ("name", name))
            self.reads(f"1+{name}", ("+", ONE, ("name", name)))

    def test_eight_letters_and_nine(self):
        self.reads("abcdefgh", ("name", "abcdefgh"))
        for text in ("abcdefghi", "a" * 9, "a" * 10000, "abcdefghi + 1", "1 * abcdefghi", "(abcdefghi)"):
            self.refused(text)

    def test_a_word_in_the_place_of_a_name(self):
        for word in WORDS:
            for text in (word, f" {word} ", f"({word})", f"{word} + 1", f"1 + {word}", f"a {word}", f"{word} a",
                         f"1 {word} 1", f"a{word} {word}"):
                self.refused(text)
            for name in (word + "s", "x" + word):
                self.reads(name, ("name", name))

    def test_other_letters(self):
        for text in ("A", "Z", "aB", "Ab", "a_b", "_", "_a", "a_", "a.b", "a'"):
            self.refused(text)


class Brackets(ReadTest):
    def test_that_need_not_be(self):
        self.reads("(1)", ONE)
        self.reads("((a))", A)
        self.reads("(1 + 2)", ("+", ONE, TWO))
        self.reads("(1) + (2)", ("+", ONE, TWO))
        self.reads("(1)+(2)", ("+", ONE, TWO))
        self.reads("(1 + 2) + 3", ("+", ("+", ONE, TWO), THREE))
        self.reads("(1 * 2) + 3", ("+", ("*", ONE, TWO), THREE))
        self.reads("1 + (2 * 3)", ("+", ONE, ("*", TWO, THREE)))
        self.reads("(1 + 2) < (3)", ("<", ("+", ONE, TWO), THREE))
        self.reads("(1 < 2)", ("<", ONE, TWO))
        self.reads("((1) < ((2)))", ("<", ONE, TWO))
        self.reads("((a) * ((b)))", ("*", A, B))

    def test_eight_within_one_another_and_nine(self):
        for many in range(9):
            self.reads("(" * many + "a" + ")" * many, A)
            self.reads("(" * many + "a < b" + ")" * many, ("<", A, B))
            self.reads("1 + " + "(" * many + "a * b" + ")" * many, ("+", ONE, ("*", A, B)))
            self.reads(" ( " * many + "1" + " ) " * many + "*2", ("*", ONE, TWO))
        for many in (9, 10, 100, 4999):
            self.refused("(" * many + "a" + ")" * many)
            self.refused("1 + " + "(" * many + "a < b" + ")" * many)
            self.refused("(" * many + "a" + ")" * many + " * 2")

    def test_those_that_must_be_are_counted_with_those_that_need_not(self):
        for outer, inner in ((1, 7), (4, 4), (7, 1)):
            tree = ("*", TWO, ("+", ONE, A))
            self.reads("(" * outer + "2 * " + "(" * inner + "1 + a" + ")" * inner + ")" * outer, tree)
            self.refused("(" * outer + "2 * " + "(" * (inner + 1) + "1 + a" + ")" * (inner + 1) + ")" * outer)
            self.refused("(" * (outer + 1) + "2 * " + "(" * inner + "1 + a" + ")" * inner + ")" * (outer + 1))

    def test_those_beside_one_another_are_not_within(self):
        eight = "(" * 8 + "a" + ")" * 8
        self.reads(f"{eight} + {eight} * {eight}", ("+", A, ("*", A, A)))
        self.reads(f"{eight} == {eight}", ("==", A, A))

    def test_that_do_not_fit(self):
        for text in ("(", ")", "()", "(a", "a)", "((a)", "(a))", ")a(", "a(", "(a + b", "a + b)", "(a + (b)", "(a) + b)",
                     "(()", "( )", "(a)(b)", "(a +) b", "a (+ b)", "(" * 10000):
            self.refused(text)


class Binding(ReadTest):
    def test_pairs_of_signs(self):
        binding = {"*": 3, "+": 2, "-": 2, "<": 1, "==": 1}
        for one in SIGNS:
            for other in SIGNS:
                text = f"1 {one} 2 {other} 3"
                if binding[one] == binding[other] == 1:
                    self.refused(text)
                elif binding[one] >= binding[other]:
                    self.reads(text, (other, (one, ONE, TWO), THREE))
                else:
                    self.reads(text, (one, ONE, (other, TWO, THREE)))
                self.reads(f"(1 {one} 2) {other} 3", (other, (one, ONE, TWO), THREE))
                self.reads(f"1 {one} (2 {other} 3)", (one, ONE, (other, TWO, THREE)))

    def test_what_stands_left_goes_first(self):
        self.reads("1 - 2 - 3", ("-", ("-", ONE, TWO), THREE))
        self.reads("1 - 2 + 3 - a", ("-", ("+", ("-", ONE, TWO), THREE), A))
        self.reads("1 * 2 * 3", ("*", ("*", ONE, TWO), THREE))
        self.reads("a - b * c - 1", ("-", ("-", A, ("*", B, C)), ONE))
        self.reads("a * b - c * 1 < 2 + 3 * a",
                   ("<", ("-", ("*", A, B), ("*", C, ONE)), ("+", TWO, ("*", THREE, A))))

    def test_a_comparison_as_a_part_without_brackets(self):
        for text in ("1 < 2 < 3", "1<2<3", "a == b == c", "a < b == c", "a == b < c", "a == b + 1 < c", "a + 1 < b < c",
                     "a < b * c == 1", "(1 < 2 < 3)", "1 + (a < b < c)", "a < b < c < 1"):
            self.refused(text)

    def test_a_comparison_as_a_part_in_brackets(self):
        self.reads("(1 < 2) < 3", ("<", ("<", ONE, TWO), THREE))
        self.reads("a == (b + 1 < c)", ("==", A, ("<", ("+", B, ONE), C)))
        self.reads("(a == b) + 1 < c", ("<", ("+", ("==", A, B), ONE), C))
        self.reads("1 * (a < b) - c", ("-", ("*", ONE, ("<", A, B)), C))


class Depth(ReadTest):
    def test_six_deep_and_seven(self):
        for sign in SIGNS:
            for right in (False, True):
                for depth in range(1, 7):
                    tree = deep_expression(depth, sign, right)
                    self.reads(show_expression(tree), tree)
                for depth in (7, 8):
                    self.refused(show_expression(deep_expression(depth, sign, right)))

    def test_long_rows_of_signs(self):
        for sign in ("+", "-", "*"):
            self.reads(sign.join("aaaaaa"), tree_from_left(sign, 6))
            self.refused(sign.join("aaaaaaa"))
            self.refused(sign.join("a" * 5000))
        self.reads("a*a*a*a*a+a", ("+", tree_from_left("*", 5), A))
        self.refused("a*a*a*a*a*a+a")
        self.refused("a+a*a*a*a*a*a")
        self.refused("a < a*a*a*a*a*a")
        self.reads("a*a*a*a<a*a*a*a*a", ("<", tree_from_left("*", 4), tree_from_left("*", 5)))

    def test_brackets_add_no_depth(self):
        self.reads("((((((((a*a*a*a*a*a))))))))", tree_from_left("*", 6))
        self.refused("((((((((a*a*a*a*a*a*a))))))))")

    def test_full_to_the_sixth(self):
        tree = A
        for _ in range(5):
            tree = ("*", tree, tree)
        self.reads(show_expression(tree), tree)
        self.refused(show_expression(("*", tree, tree)))


def tree_from_left(sign, many):
    tree = A
    for _ in range(many - 1):
        tree = (sign, tree, A)
    return tree


class NoExpression(Exception):
    pass


def tree_by_python(text):
    """The tree of an expression's text as Python reads it, whose signs bind likewise, or NoExpression."""
    if re.search(r"[^a-z0-9()=+*< -]|=\s+=|\b0[0-9]|[0-9]{31}|[a-z]{9}|[a-z][0-9]|[0-9][a-z]", text):
        raise NoExpression(text)
    nested = most = 0
    for sign in text:
        nested += {"(": 1, ")": -1}.get(sign, 0)
        most = max(most, nested)
    try:
        tree = tree_of_node(ast.parse(text.strip(" "), mode="eval").body)
    except SyntaxError:
        raise NoExpression(text) from None
    if most > 8 or depth_of(tree) > 6:
        raise NoExpression(text)
    return tree


def tree_of_node(node):
    if isinstance(node, ast.Constant) and type(node.value) is int:
        return ("number", node.value)
    if isinstance(node, ast.Name) and node.id not in WORDS:
        return ("name", node.id)
    if isinstance(node, ast.BinOp) and type(node.op) in PYTHON_SIGNS:
        return (PYTHON_SIGNS[type(node.op)], tree_of_node(node.left), tree_of_node(node.right))
    if isinstance(node, ast.Compare) and len(node.ops) == 1 and type(node.ops[0]) in PYTHON_SIGNS:
        return (PYTHON_SIGNS[type(node.ops[0])], tree_of_node(node.left), tree_of_node(node.comparators[0]))
    raise NoExpression(ast.dump(node))


def depth_of(tree):
    return 1 if len(tree) == 2 else 1 + max(depth_of(tree[1]), depth_of(tree[2]))


class BesidePython(ReadTest):
    """Texts of many kinds, read here as Python reads them."""

    def compare(self, text):
        try:
            tree = tree_by_python(text)
        except NoExpression:
            self.refused(text)
            return 0
        self.reads(text, tree)
        return 1

    def test_texts_out_of_parts(self):
        chance = random.Random(7)
        parts = ["a", "b", "ab", "1", "0", "10", "+", "-", "*", "<", "==", "(", ")", "(", ")", "=", " ", " ", "work"]
        read = sum(self.compare("".join(chance.choices(parts, k=chance.randint(1, 9)))) for _ in range(6000))
        self.assertGreater(read, 100)

    def test_texts_that_are_nearly_right(self):
        chance = random.Random(8)
        read = 0
        for _ in range(3000):
            text = random_text(chance, chance.randint(0, 6))
            for _ in range(chance.choice((0, 0, 1, 1, 2))):
                at = chance.randrange(len(text) + 1)
                text = text[:at] + chance.choice(["", "(", ")", " ", "a", "1", "0", "<", "-", "="]) + text[at + 1:]
            read += self.compare(text)
        self.assertGreater(read, 500)


def random_text(chance, depth):
    """A text of an expression of about that depth, with brackets and blanks where it happens."""
    if depth <= 1 or chance.random() < 0.2:
        text = chance.choice(["a", "b", "mnopqrst", "0", "1", "20", "9" * 30])
    else:
        parts = [random_text(chance, depth - 1), chance.choice(SIGNS), random_text(chance, depth - 1)]
        text = chance.choice(["", " ", "  "]).join(parts)
    while chance.random() < 0.4:
        text = f"({text})"
    return text


if __name__ == "__main__":
    unittest.main()
