"""A book whose lines are being read, each of them refused where it can't stand behind those ahead of it."""

from stealhall.errors import BadText
from stealhall.forms import MOST_IFS, MOST_ROWS, MOST_WORKS


class OpenIf:
    """An if whose end has not been read."""

    def __init__(self, condition):
        self.condition = condition
        # The rows under way, and the ones ahead of the else, None where there has been no else.
        self.rows = []
        self.rows_ahead = None

    def told(self):
        """Tell the if as a row."""
        if self.rows_ahead is None:
            return ("if", self.condition, tuple(self.rows), ())
        return ("if", self.condition, tuple(self.rows_ahead), tuple(self.rows))


class OpenWork:
    """A work whose rows are being read; head is all of it that stands ahead of its rows."""

    def __init__(self, head):
        self.head = head
        self.rows = []
        self.ifs = []
        self.left = MOST_ROWS

    def rows_under_way(self):
        """Tell the very list to which the next row belongs."""
        return self.ifs[-1].rows if self.ifs else self.rows


class Draft:
    """The works of a book as far as its lines have been read; at is always the number of the line that is added."""

    def __init__(self):
        self.works = []
        self.under_way = None
        # The goes and calls, each behind the number of its line.
        self.starts = []

    def begin_work(self, at, head):
        self.end_work(at)
        if len(self.works) == MOST_WORKS or head[1] in [work[1] for work in self.works]:
            raise BadText(at)
        self.under_way = OpenWork(head)

    def end_work(self, at):
        """End the work under way, if there is one; an if of it that has no end shows at that line."""
        work = self.under_way
        if work is None:
            return
        if work.ifs:
            raise BadText(at)
        self.works.append((*work.head, tuple(work.rows)))
        self.under_way = None

    def add_row(self, at, row):
        """Add a row that is no if."""
        rows = self.work_with_row(at).rows_under_way()
        rows.append(row)
        if row[0] in ("go", "call"):
            self.starts.append((at, row))

    def work_with_row(self, at):
        """Tell the work under way, with one row more counted."""
        work = self.under_way
        if work is None or work.left == 0:
            raise BadText(at)
        work.left -= 1
        return work

    def begin_if(self, at, condition):
        work = self.work_with_row(at)
        if len(work.ifs) == MOST_IFS:
            raise BadText(at)
        work.ifs.append(OpenIf(condition))

    def turn_to_else(self, at):
        branch = self.last_if(at)
        if branch.rows_ahead is not None:
            raise BadText(at)
        branch.rows_ahead = branch.rows
        branch.rows = []

    def end_if(self, at):
        row = self.last_if(at).told()
        work = self.under_way
        work.ifs.pop()
        rows = work.rows_under_way()
        rows.append(row)

    def last_if(self, at):
        """Tell the innermost if that has not ended."""
        if self.under_way is None or not self.under_way.ifs:
            raise BadText(at)
        return self.under_way.ifs[-1]
