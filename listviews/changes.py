"""Changes: how a list of rows becomes another one, stated by indices and by rows that come."""

from listviews.checks import need_integer
from listviews.checks import need_rows
from listviews.errors import InvalidChange
from listviews.errors import KeyTaken
from listviews.errors import Mismatch
from listviews.plans import steps_to
from listviews.values import MOST_ROWS
from listviews.values import is_integer
from listviews.values import is_list
from listviews.values import is_row


class Change:
    """A change of lists of `before` rows; `after` states each row by its old index, or as it comes."""

    def __init__(self, before, after):
        need_integer(before, 0, MOST_ROWS)
        need_after(before, after)
        self.old_count = before
        self.new_items = tuple(after)
        self.kept_indices = [item for item in after if isinstance(item, int)]
        self.new_rows = [item for item in after if not isinstance(item, int)]
        self.fewest_steps = steps_to(before, after)

    @property
    def before(self):
        """The number of rows before the change."""
        return self.old_count

    @property
    def total(self):
        """The number of rows afterwards."""
        return len(self.new_items)

    def after(self):
        """Return the list of the old indices and of the rows that come."""
        return list(self.new_items)

    def kept(self):
        """Return the old indices of the rows that stay, in their new order."""
        return list(self.kept_indices)

    def gone(self):
        """Return the old indices of the rows that go, ascending."""
        return [index for index in range(self.old_count) if index not in self.kept_indices]

    def came(self):
        """Return the rows that come, in their order."""
        return list(self.new_rows)

    def steps(self):
        """Return the fewest steps that have the effect of the change."""
        return list(self.fewest_steps)

    def __call__(self, rows):
        return self.rows_after(rows)

    def rows_after(self, rows):
        """Return the list to which the change leads a list of rows."""
        need_rows(rows)
        if len(rows) != self.old_count:
            raise Mismatch(rows)
        return taken_over(rows, self)

    def __add__(self, other):
        need_change(other)
        if other.old_count != len(self.new_items):
            raise Mismatch(other)
        return Change(self.old_count, taken_over(self.new_items, other))

    def __eq__(self, other):
        return isinstance(other, Change) and self.old_count == other.old_count and self.new_items == other.new_items

    def __bool__(self):
        return bool(self.fewest_steps)

    def __len__(self):
        return len(self.fewest_steps)

    def __iter__(self):
        return iter(self.fewest_steps)

    def back(self, rows):
        """Return the change that leads from the list after the change back to these rows."""
        self.rows_after(rows)
        places = {item: at for at, item in enumerate(self.new_items)}
        return Change(len(self.new_items), [places.get(index, row) for index, row in enumerate(rows)])

    @staticmethod
    def same(count):
        """Return the change of so many rows by which nothing changes."""
        need_integer(count, 0, MOST_ROWS)
        return Change(count, list(range(count)))

    @staticmethod
    def between(old, new):
        """Return the change from one list of rows to another by which each row in both stays."""
        need_rows(old)
        need_rows(new)
        places = {row: at for at, row in enumerate(old)}
        return Change(len(old), [places.get(row, row) for row in new])


def need_change(value):
    """Raise InvalidChange unless the value is a change."""
    if not isinstance(value, Change):
        raise InvalidChange(value)


def need_after(before, after):
    """Raise InvalidChange unless the list may state what becomes of so many rows."""
    if not is_list(after, MOST_ROWS):
        raise InvalidChange(after)
    for at, item in enumerate(after):
        is_possible = is_integer(item, 0, before - 1) or is_row(item)
        if not is_possible or item in after[:at]:
            raise InvalidChange(item)


def taken_over(items, change):
    """Return what a change makes of items; raise KeyTaken if a row comes that stays as well."""
    staying = [items[index] for index in change.kept_indices]
    for row in change.new_rows:
        if row in staying:
            raise KeyTaken(row)
    return [items[item] if isinstance(item, int) else item for item in change.new_items]
