"""What works and books are made of."""

from stealhall.errors import BadTree, Missing
from stealhall.writing import show_work

MOST_WORKS = 12
MOST_ROWS = 40
MOST_NAMES = 4
MOST_EXPRESSIONS = 4
MOST_IFS = 3
MOST_DEPTH = 6
MOST_LETTERS = 8
MOST_ROOM = 1000
MOST_FIGURES = 30
MOST_NUMBER = 10 ** 30 - 1

LETTERS = "abcdefghijklmnopqrstuvwxyz"
WORDS = ("work", "room", "go", "call", "wait", "if", "else", "end", "give", "fail")
SIGNS = ("+", "-", "*", "<", "==")

# What rows_left tells of a thing that is no tuple of rows, or of too many.
NO_ROWS = -1


def check_work(thing):
    """Refuse what is no work."""
    if not is_work(thing):
        raise BadTree("this is no work")


def is_work(thing):
    if not is_tuple_of(thing, 5) or thing[0] != "work":
        return False
    name, names, room, rows = thing[1:]
    if not is_name(name) or not are_names(names) or not is_whole_within(room, MOST_ROOM):
        return False
    return rows_left(rows, MOST_IFS, MOST_ROWS) != NO_ROWS


def is_tuple_of(thing, many):
    """Tell whether thing is a tuple of so many parts."""
    return isinstance(thing, tuple) and len(thing) == many


def is_whole(thing):
    """Tell whether thing is a whole number, which True and False are not."""
    return isinstance(thing, int) and not isinstance(thing, bool)


def is_whole_within(thing, most):
    """Tell whether thing is a whole number from 0 to most."""
    return is_whole(thing) and 0 <= thing <= most


def is_name(thing):
    if not isinstance(thing, str) or not 1 <= len(thing) <= MOST_LETTERS:
        return False
    return thing not in WORDS and all([letter in LETTERS for letter in thing])


def are_names(thing):
    """Tell whether thing is a tuple of names that a work can be handed."""
    if not isinstance(thing, tuple) or len(thing) > MOST_NAMES:
        return False
    return all([is_name(part) for part in thing]) and len(set(thing)) == len(thing)


def is_expression(thing, deepest=MOST_DEPTH):
    """Tell whether thing is an expression at most so deep."""
    if is_tuple_of(thing, 2):
        return is_leaf(thing)
    if not is_tuple_of(thing, 3) or thing[0] not in SIGNS:
        return False
    return deepest > 1 and is_expression(thing[1], deepest - 1) and is_expression(thing[2], deepest - 1)


def is_leaf(pair):
    """Tell whether a pair is a number or a name as expressions have them."""
    if pair[0] == "number":
        return is_whole_within(pair[1], MOST_NUMBER)
    return pair[0] == "name" and is_name(pair[1])


def are_expressions(thing):
    """Tell whether thing is a tuple of expressions that a go or call can have."""
    if not isinstance(thing, tuple) or len(thing) > MOST_EXPRESSIONS:
        return False
    return all([is_expression(part) for part in thing])


def rows_left(thing, ifs, left):
    """Tell how many of so many rows are left behind the rows of thing, those within ifs too, or NO_ROWS.

    Counting while looking keeps a thing of far too many rows from being looked at to its end.
    """
    if not isinstance(thing, tuple):
        return NO_ROWS
    for row in thing:
        left = row_left(row, ifs, left)
        if left == NO_ROWS:
            return NO_ROWS
    return left


def row_left(thing, ifs, left):
    """Tell how many of so many rows are left behind one row, in which so many ifs may stand within one another."""
    if left == 0:
        return NO_ROWS
    if is_if_head(thing):
        return NO_ROWS if ifs == 0 else branches_left(thing, ifs - 1, left - 1)
    return left - 1 if is_plain_row(thing) else NO_ROWS


def branches_left(row, ifs, left):
    """Tell how many of so many rows are left behind both rows of an if."""
    left = rows_left(row[2], ifs, left)
    return NO_ROWS if left == NO_ROWS else rows_left(row[3], ifs, left)


def is_if_head(thing):
    """Tell whether thing is an if as far as its rows are left aside."""
    return is_tuple_of(thing, 4) and thing[0] == "if" and is_expression(thing[1])


def is_plain_row(thing):
    """Tell whether thing is a row that is no if."""
    if is_tuple_of(thing, 2):
        return thing[0] in ("give", "fail") and is_expression(thing[1])
    if is_tuple_of(thing, 3):
        return thing[0] == "put" and is_name(thing[1]) and is_expression(thing[2])
    if not is_tuple_of(thing, 4) or not is_name(thing[1]) or not is_name(thing[2]):
        return False
    if thing[0] == "wait":
        return thing[3] is None or is_expression(thing[3])
    return thing[0] in ("go", "call") and are_expressions(thing[3])


def check_works(thing):
    """Refuse what is no list of works that a book can have, their goes and calls left aside."""
    if not isinstance(thing, list) or len(thing) > MOST_WORKS:
        raise BadTree("this is no list of works")
    for work in thing:
        check_work(work)
    if len({work[1] for work in thing}) < len(thing):
        raise BadTree("two works have one name")


def check_starts(works):
    """Refuse the first go or call of these works that doesn't go with them."""
    handed = handed_counts(works)
    for work in works:
        for start in starts_in(work[4]):
            check_start(start, handed)


def handed_counts(works):
    """Tell how many names each work is handed, by the works' names."""
    return {work[1]: len(work[2]) for work in works}


def check_start(start, handed):
    """Refuse a go or call that names no work of these, or has not as many expressions as it is handed names."""
    if start[2] not in handed:
        raise Missing(start[2])
    if len(start[3]) != handed[start[2]]:
        raise BadTree("a go or call has too many or too few expressions")


def starts_in(rows):
    """Tell the goes and calls of rows from the first on, an if's first rows ahead of its second ones."""
    starts = []
    for row in rows:
        if row[0] in ("go", "call"):
            starts.append(row)
        elif row[0] == "if":
            starts.extend(starts_in(row[2] + row[3]))
    return starts


class Book:
    """Works by their names, each go and call of which is of one of them."""

    def __init__(self, works):
        check_works(works)
        check_starts(works)
        self.works = tuple(works)

    def names(self):
        """Tell the names of the works in their order."""
        return [work[1] for work in self.works]

    def tree(self, name):
        """Tell the work of that name."""
        for work in self.works:
            if work[1] == name:
                return work
        raise Missing(name)

    def __len__(self):
        return len(self.works)

    def __eq__(self, other):
        return isinstance(other, Book) and self.works == other.works

    def __str__(self):
        return "\n".join([show_work(work) for work in self.works])

    def __repr__(self):
        return f"Book({', '.join(self.names())})"
