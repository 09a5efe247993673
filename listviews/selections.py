"""Selections of rows of a view, and anchors between its rows; both follow the view from turn to turn."""

from listviews.checks import need_integer
from listviews.errors import InvalidName
from listviews.errors import InvalidRows
from listviews.errors import TooMany
from listviews.errors import UnknownRow
from listviews.values import MOST_ROWS
from listviews.values import is_list
from listviews.values import is_row
from listviews.views import need_open_view


class Selection:
    """Selected rows of a view, several or at most one, and a row that has the focus."""

    def __init__(self, view, *, multiple=True):
        need_open_view(view)
        self.followed = view
        self.is_multiple = multiple
        self.selected_rows = []
        self.focused_row = None
        view.follow(self)

    @property
    def view(self):
        """The view."""
        return self.followed

    @property
    def multiple(self):
        """True if more than one row can be selected."""
        return self.is_multiple

    @property
    def focus(self):
        """The row that has the focus, or None."""
        return self.focused_row

    @focus.setter
    def focus(self, value):
        self.focus_on(value)

    def focus_on(self, value):
        """Give the focus to a row, or to none."""
        self.followed.need_idle()
        if value is not None:
            self.need_row_here(value)
        self.focused_row = value

    def rows(self):
        """Return the selected rows in the order of the view."""
        return [row for row in self.followed.rows() if row in self.selected_rows]

    def ranges(self):
        """Return the fewest tuples (start, end) of indices that have exactly the selected rows."""
        return ranges_of([self.followed.place(row) for row in self.rows()])

    def __len__(self):
        return len(self.selected_rows)

    def __contains__(self, item):
        return is_row(item) and item in self.selected_rows

    def __ior__(self, other):
        self.need_rows_here(other)
        self.choose([row for row in self.followed.rows() if row in self.selected_rows or row in other])
        return self

    def __isub__(self, other):
        self.need_rows_here(other)
        self.choose([row for row in self.selected_rows if row not in other])
        return self

    def __ixor__(self, other):
        self.need_rows_here(other)
        self.choose([row for row in self.followed.rows() if (row in self.selected_rows) != (row in other)])
        return self

    def everything(self):
        """Select all rows."""
        self.followed.need_idle()
        self.choose(self.followed.rows())

    def clear(self):
        """Select no row."""
        self.followed.need_idle()
        self.choose([])

    def select(self, row):
        """Select a row alone, and give it the focus."""
        self.followed.need_idle()
        self.need_row_here(row)
        self.focused_row = row
        self.choose([row])

    def extend(self, row):
        """Select the rows from the focus to this row."""
        self.followed.need_idle()
        if self.focused_row is None or not self.is_multiple:
            self.select(row)
        else:
            places = sorted([self.followed.place(self.focused_row), self.followed.place(row)])
            self.choose(self.followed.rows()[places[0] : places[1] + 1])

    def passed(self, before, after):
        """Follow the view through a turn in which its rows changed."""
        self.selected_rows = [row for row in self.selected_rows if row in after]
        if self.focused_row is not None:
            self.focused_row = heir_of(self.focused_row, before, after)

    def choose(self, rows):
        """Select these rows alone, if so many can be selected."""
        if len(rows) > 1 and not self.is_multiple:
            raise TooMany(len(rows))
        self.selected_rows = rows

    def need_row_here(self, value):
        """Raise UnknownRow unless the value is a row of the view."""
        if value not in self.followed:
            raise UnknownRow(value)

    def need_rows_here(self, value):
        """Raise Busy, InvalidRows or UnknownRow unless the value is a list of rows of the view."""
        self.followed.need_idle()
        if not is_list(value, MOST_ROWS):
            raise InvalidRows(value)
        for item in value:
            self.need_row_here(item)


class Anchor:
    """A place between the rows of a view: behind the row on its left, or ahead of the one on its right."""

    def __init__(self, view, gap, *, gravity="left"):
        need_open_view(view)
        need_integer(gap, 0, len(view))
        need_gravity(gravity)
        self.followed = view
        self.rows_ahead = gap
        self.leaning = gravity
        view.follow(self)

    @property
    def view(self):
        """The view."""
        return self.followed

    @property
    def gap(self):
        """The number of rows ahead of the anchor."""
        return self.rows_ahead

    @property
    def gravity(self):
        """The side on which the row stands that the anchor stays beside."""
        return self.leaning

    def passed(self, before, after):
        """Follow the view through a turn in which its rows changed."""
        if self.leaning == "left":
            row = first_of(before[: self.rows_ahead][::-1], after)
            self.rows_ahead = 0 if row is None else after.index(row) + 1
        else:
            row = first_of(before[self.rows_ahead :], after)
            self.rows_ahead = len(after) if row is None else after.index(row)


def need_gravity(value):
    """Raise InvalidName unless the value is one of the two gravities."""
    if value not in ("left", "right"):
        raise InvalidName(value)


def first_of(rows, present):
    """Return the first of the rows that is present, or None."""
    for row in rows:
        if row in present:
            return row
    return None


def heir_of(row, before, after):
    """Return the row that has the focus behind a turn if this row had it before."""
    at = before.index(row)
    behind = first_of(before[at:], after)
    return first_of(before[:at][::-1], after) if behind is None else behind


def ranges_of(indices):
    """Return the fewest tuples (start, end) that have exactly these ascending indices."""
    ranges = []
    for index in indices:
        if ranges != [] and ranges[-1][1] == index:
            ranges[-1] = (ranges[-1][0], index + 1)
        else:
            ranges.append((index, index + 1))
    return ranges
