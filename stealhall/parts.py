"""The parts of a line, and going over them from the first on."""

from stealhall.errors import BadText
from stealhall.forms import LETTERS, WORDS, is_name

FIGURES = "0123456789"
MARKS = ("(", ")", ",", "=", "==", "+", "-", "*", "<")

# What stands behind a line's last part; a part itself has at least one sign.
NO_PART = ""


def parts_of(text, row):
    """Tell the parts of a line that has this number."""
    parts = []
    at = 0
    while at < len(text):
        if text[at] == " ":
            at += 1
        else:
            part = part_at(text, at)
            if not is_part(part):
                raise BadText(row)
            parts.append(part)
            at += len(part)
    return parts


def part_at(text, at):
    """Tell the signs from there on that can only be one part, or none."""
    for signs in (LETTERS, FIGURES):
        if text[at] in signs:
            return run_at(text, at, signs)
    return "==" if text[at:at + 2] == "==" else text[at]


def run_at(text, at, signs):
    """Tell the longest run of such signs from there on."""
    behind = at
    while behind < len(text) and text[behind] in signs:
        behind += 1
    return text[at:behind]


def is_part(text):
    if is_figures(text):
        return text == "0" or text[0] != "0"
    return text in MARKS or text in WORDS or is_name(text)


def is_figures(part):
    return part != NO_PART and part[0] in FIGURES


class Line:
    """The parts of one line, and how many of them have been taken."""

    def __init__(self, text, row):
        self.parts = parts_of(text, row)
        self.row = row
        self.place = 0

    def peek(self):
        """Tell the next part, or NO_PART."""
        return self.parts[self.place] if self.place < len(self.parts) else NO_PART

    def take(self):
        """Tell the next part, or NO_PART, and go on behind it."""
        part = self.peek()
        self.place += 1
        return part

    def skip(self, wanted):
        """Go on behind the next part, which must be the wanted one."""
        if self.take() != wanted:
            raise BadText(self.row)
