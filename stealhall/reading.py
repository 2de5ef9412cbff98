"""How texts are read: expressions, and books line by line."""

from stealhall.drafts import Draft
from stealhall.errors import BadText, BadTree
from stealhall.forms import (MOST_FIGURES, MOST_NUMBER, MOST_ROOM, Book, are_expressions, are_names, check_start,
                             handed_counts, is_expression, is_name)
from stealhall.parts import NO_PART, Line, is_figures

MOST_BRACKETS = 8


def read_expression(text):
    """Tell the tree of an expression's text."""
    line = Line(text, 1)
    tree = read_tree(line)
    line.skip(NO_PART)
    return tree


def read_tree(line, brackets=0):
    """Read an expression that stands within so many brackets."""
    left = read_sum(line, brackets)
    if line.peek() not in ("<", "=="):
        return left
    sign = line.take()
    return operation(line, sign, left, read_sum(line, brackets))


def read_sum(line, brackets):
    tree = read_product(line, brackets)
    while line.peek() in ("+", "-"):
        sign = line.take()
        tree = operation(line, sign, tree, read_product(line, brackets))
    return tree


def read_product(line, brackets):
    tree = read_single(line, brackets)
    while line.peek() == "*":
        sign = line.take()
        tree = operation(line, sign, tree, read_single(line, brackets))
    return tree


def operation(line, sign, left, right):
    """Tell the tree of an operation, looked at at once so that no tree grows far beyond its bound."""
    tree = (sign, left, right)
    if not is_expression(tree):
        raise BadText(line.row)
    return tree


def read_single(line, brackets):
    """Read a number, a name or an expression in brackets."""
    if line.peek() == "(":
        return read_bracketed(line, brackets + 1)
    if is_figures(line.peek()):
        return ("number", read_number(line, MOST_NUMBER))
    return ("name", read_name(line))


def read_bracketed(line, brackets):
    if brackets > MOST_BRACKETS:
        raise BadText(line.row)
    line.skip("(")
    tree = read_tree(line, brackets)
    line.skip(")")
    return tree


def read_number(line, most):
    """Read a number of at most so much."""
    part = line.take()
    # Python refuses to make a number of very many figures, so they are counted first.
    if not is_figures(part) or len(part) > MOST_FIGURES or int(part) > most:
        raise BadText(line.row)
    return int(part)


def read_name(line):
    part = line.take()
    if not is_name(part):
        raise BadText(line.row)
    return part


def read_listed(line, read_one):
    """Read things in brackets with commas between them, each by read_one."""
    line.skip("(")
    things = []
    if line.peek() != ")":
        things.append(read_one(line))
        while line.peek() == ",":
            line.skip(",")
            things.append(read_one(line))
    line.skip(")")
    return tuple(things)


def read_book(text):
    """Tell the book that a text tells."""
    draft = Draft()
    lines = text.split("\n")
    for at, line in enumerate(lines):
        if line.strip(" ") != "":
            read_line(draft, Line(line, at + 1))
    draft.end_work(len(lines) + 1)
    check_start_lines(draft)
    return Book(draft.works)


def check_start_lines(draft):
    """Refuse the first go or call of a draft that doesn't go with its works."""
    handed = handed_counts(draft.works)
    for at, start in draft.starts:
        try:
            check_start(start, handed)
        except BadTree:
            raise BadText(at) from None


def read_line(draft, line):
    """Read a line that tells something into a draft."""
    word = line.peek()
    if word == "work":
        draft.begin_work(line.row, read_head(line))
    elif word == "if":
        line.skip("if")
        draft.begin_if(line.row, read_tree(line))
    elif word == "else":
        line.skip("else")
        draft.turn_to_else(line.row)
    elif word == "end":
        line.skip("end")
        draft.end_if(line.row)
    else:
        draft.add_row(line.row, read_row(line))
    line.skip(NO_PART)


def read_head(line):
    """Read all of a work that stands ahead of its rows."""
    word = line.take()
    name = read_name(line)
    names = read_listed(line, read_name)
    if not are_names(names):
        raise BadText(line.row)
    line.skip("room")
    return (word, name, names, read_number(line, MOST_ROOM))


def read_row(line):
    """Read a row that is no if."""
    word = line.peek()
    if word in ("go", "call"):
        return read_start(line)
    if word == "wait":
        return read_wait(line)
    if word in ("give", "fail"):
        line.skip(word)
        return (word, read_tree(line))
    return read_put(line)


def read_start(line):
    """Read a go or call."""
    word = line.take()
    name = read_name(line)
    work_name = read_name(line)
    expressions = read_listed(line, read_tree)
    if not are_expressions(expressions):
        raise BadText(line.row)
    return (word, name, work_name, expressions)


def read_wait(line):
    word = line.take()
    name = read_name(line)
    waited = read_name(line)
    if line.peek() != "else":
        return (word, name, waited, None)
    line.skip("else")
    return (word, name, waited, read_tree(line))


def read_put(line):
    name = read_name(line)
    line.skip("=")
    return ("put", name, read_tree(line))
