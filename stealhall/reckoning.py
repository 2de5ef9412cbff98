"""What expressions come to; where one can't be reckoned, Broken is raised with what its task fails with."""

from stealhall.errors import Broken
from stealhall.forms import MOST_NUMBER

NO_WORTH = -1
NO_NUMBER = -2
NO_FUTURE = -3
TOO_GREAT = -4
TOO_DEEP = -5


def is_future(worth):
    """Tell whether what a name stands for is a future; else it is a number."""
    return isinstance(worth, tuple)


def worth_of(name, worths):
    """Tell what a name stands for."""
    if name not in worths:
        raise Broken(NO_WORTH)
    return worths[name]


def path_of(name, worths):
    """Tell the path of the task whose future a name stands for."""
    worth = worth_of(name, worths)
    if not is_future(worth):
        raise Broken(NO_FUTURE)
    return worth[1]


def reckon(tree, worths):
    """Tell what an expression comes to, a number or a future, by what the names stand for."""
    if tree[0] == "number":
        return tree[1]
    if tree[0] == "name":
        return worth_of(tree[1], worths)
    sign, left_tree, right_tree = tree
    # Both parts are reckoned ahead of the look at whether they are numbers.
    left = reckon(left_tree, worths)
    right = reckon(right_tree, worths)
    return operate(sign, as_number(left), as_number(right))


def reckon_number(tree, worths):
    """Tell what an expression comes to, which must be a number."""
    return as_number(reckon(tree, worths))


def as_number(worth):
    if is_future(worth):
        raise Broken(NO_NUMBER)
    return worth


def operate(sign, left, right):
    """Tell what a sign makes of two numbers."""
    if sign == "<":
        return 1 if left < right else 0
    if sign == "==":
        return 1 if left == right else 0
    number = combine(sign, left, right)
    if abs(number) > MOST_NUMBER:
        raise Broken(TOO_GREAT)
    return number


def combine(sign, left, right):
    if sign == "+":
        return left + right
    if sign == "-":
        return left - right
    return left * right
