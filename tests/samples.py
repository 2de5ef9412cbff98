"""Works, rows and wrong things that several tests use."""

ONE = ("number", 1)
A = ("name", "a")
PUT = ("put", "a", ONE)
GIVE = ("give", A)

WORDS = ("work", "room", "go", "call", "wait", "if", "else", "end", "give", "fail")
SIGNS = ("+", "-", "*", "<", "==")


def work(*rows, name="f", names=(), room=0):
    return ("work", name, names, room, rows)


def if_row(first=(), second=(), condition=ONE):
    return ("if", condition, tuple(first), tuple(second))


def nested_ifs(many, second=False):
    """An if with as many ifs within one another, itself counted, by its first or second rows."""
    row = PUT
    for _ in range(many):
        row = if_row(second=[row]) if second else if_row(first=[row])
    return row


def deep_expression(depth, sign="+", right=False):
    tree = ONE
    for _ in range(depth - 1):
        tree = (sign, A, tree) if right else (sign, tree, A)
    return tree


def within(thing, depth, kind):
    """The thing within as many lists or tuples."""
    for _ in range(depth):
        thing = kind([thing])
    return thing


def wrong_things():
    """Things that are neither a name, a number from 0 on, a tuple of parts, a row, an expression nor a work."""
    plain = [-1, -10 ** 30, 10 ** 40 - 1, True, False, "", "A", "a b", "work f() room 0", "else", "abcdefghi", "\n", "~"]
    nested = [[], [[]], [()], ((),), (None,), ([],), (0,), ("A",), ("else",), [0, "a", None, True]]
    deep = [within(leaf, depth, kind) for leaf in (None, 0, "A", ()) for depth in (1, 2, 29) for kind in (list, tuple)]
    return plain + nested + deep


def with_part(thing, at, part):
    """The tuple with another part in that place."""
    return thing[:at] + (part,) + thing[at + 1:]


def part_places(thing, ahead=()):
    """The places of all parts of a tuple, those within others too."""
    places = []
    for at, part in enumerate(thing):
        places.append((*ahead, at))
        if isinstance(part, tuple):
            places.extend(part_places(part, (*ahead, at)))
    return places


def part_at(thing, place):
    for at in place:
        thing = thing[at]
    return thing


def with_part_at(thing, place, part):
    if not place:
        return part
    return with_part(thing, place[0], with_part_at(thing[place[0]], place[1:], part))


# A work with each kind of row and expression.
FULL = (
    "work", "f", ("a", "b"), 7, (
        ("put", "c", ("+", ("name", "a"), ("*", ("number", 2), ("name", "b")))),
        ("go", "d", "f", (("number", 0), ("-", ("name", "a"), ("number", 1)))),
        ("call", "e", "g", ()),
        ("wait", "x", "d", None),
        ("wait", "x", "d", ("number", 3)),
        ("if", ("<", ("name", "a"), ("number", 2)),
         (("give", ("name", "a")), ("if", ("==", ("number", 1), ("name", "b")), (), (("fail", ("number", 4)),))),
         (("put", "y", ("number", 5)),)),
        ("fail", ("name", "x")),
    ),
)
EMPTY = ("work", "g", (), 0, ())

# Books as texts: works that others start, behind which more may stand, and the beginning of such a book.
GIVER = "\nwork giver(n) room 0\n give n"
FAILER = "\nwork failer(n) room 0\n fail n"


def main(*rows, names="", room=0):
    """The text of a work called main with these rows."""
    return "\n".join([f"work main({names}) room {room}", *rows])
