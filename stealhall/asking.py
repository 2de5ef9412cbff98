"""How the rows that a desk is told are read."""

from stealhall.errors import NoRow
from stealhall.forms import MOST_FIGURES, is_name
from stealhall.parts import FIGURES

MOST_ROUNDS = 9999

# What stands behind the first word of each row but line.
FORMS = {
    "text": ("name",),
    "run": ("name", "name"),
    "open": ("name", "name", "number", "choice", "name"),
    "turn": ("name", "number", "choice"),
    "rounds": ("name", "rounds"),
    "show": ("name",),
    "undo": (),
}
# The rows at whose end there may be numbers, as many as one likes.
NUMBERED = ("run", "open")


def read_asked(row):
    """Tell the first word of a row and a list of what stands behind it: names and numbers, None for a dash.

    The last thing of a line is its rest, that of a row with numbers at its end the list of these.
    """
    if "\n" in row:
        raise NoRow("there is a row end in the row")
    word = row.partition(" ")[0]
    if word == "line":
        return word, line_parts(row)
    if word not in FORMS:
        raise NoRow("no row begins so")
    return word, word_parts(word, row.split(" ")[1:])


def line_parts(row):
    words = row.split(" ", 2)
    if len(words) < 3:
        raise NoRow("the row has too few words")
    return [read_name(words[1]), words[2]]


def word_parts(word, words):
    """Tell what the words behind the first word tell."""
    form = FORMS[word]
    more = words[len(form):]
    if len(words) < len(form) or (more and word not in NUMBERED):
        raise NoRow("the row has too many or too few words")
    parts = [read_part(kind, text) for kind, text in zip(form, words)]
    if word in NUMBERED:
        parts.append([read_number(text) for text in more])
    return parts


def read_part(kind, text):
    """Tell what a word tells that should be of this kind."""
    if kind == "name":
        return read_name(text)
    if kind == "choice" and text == "-":
        return None
    number = read_number(text)
    if kind == "rounds" and not 0 <= number <= MOST_ROUNDS:
        raise NoRow("there can not be so many rounds")
    return number


def read_name(text):
    if not is_name(text):
        raise NoRow("this is no name")
    return text


def read_number(text):
    figures = text.removeprefix("-")
    if text != "0" and not are_figures(figures):
        raise NoRow("this is no number")
    return int(text)


def are_figures(text):
    """Tell whether a text is figures in a row that a number may have, with no nought ahead."""
    if not 1 <= len(text) <= MOST_FIGURES or text[0] == "0":
        return False
    return all([sign in FIGURES for sign in text])
