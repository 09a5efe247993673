"""Tellings: how a list of rows with values changed."""

from listviews.changes import Change
from listviews.changes import need_change
from listviews.checks import need_rows
from listviews.errors import InvalidRows
from listviews.values import MOST_ROWS
from listviews.values import is_list
from listviews.values import is_row
from listviews.values import is_value


class Telling:
    """A change of rows, and the rows that stay and have another value."""

    def __init__(self, change, differing):
        need_change(change)
        need_rows(differing)
        self.rows_change = change
        self.differing_rows = list(differing)
        self.told_parts = [*change.steps(), *differing]

    @property
    def change(self):
        """The change of the rows."""
        return self.rows_change

    def differing(self):
        """Return the rows that stay and have another value."""
        return list(self.differing_rows)

    def __eq__(self, other):
        return (
            isinstance(other, Telling)
            and self.rows_change == other.rows_change
            and self.differing_rows == other.differing_rows
        )

    def __bool__(self):
        return bool(self.told_parts)

    def __len__(self):
        return len(self.told_parts)

    @staticmethod
    def between(old, new):
        """Return the telling that leads from one state to another, each a list of tuples (row, value)."""
        need_state(old)
        need_state(new)
        values = {row: value for row, value in old}
        differing = [row for row, value in new if row in values and values[row] != value]
        return Telling(Change.between(list(values), [row for row, value in new]), differing)


def need_state(value):
    """Raise InvalidRows unless the value is a state."""
    if not is_list(value, MOST_ROWS) or not all([is_row_with_value(item) for item in value]):
        raise InvalidRows(value)
    if len(set([row for row, worth in value])) != len(value):
        raise InvalidRows(value)


def is_row_with_value(item):
    """Return True if an item of a state is a tuple of a row and its value."""
    if not isinstance(item, tuple) or len(item) != 2 or not is_row(item[0]):
        return False
    worth = item[1]
    return is_value(worth) or isinstance(worth, int) and not isinstance(worth, bool)
