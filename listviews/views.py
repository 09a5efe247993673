"""Views: rows and values as of the last turn, and what was told of them."""

from listviews.checks import need_integer
from listviews.errors import InvalidView
from listviews.errors import UnknownRow
from listviews.errors import UnknownView
from listviews.sights import Sight
from listviews.sights import state_of
from listviews.sights import worth_in
from listviews.telling import Telling
from listviews.values import is_row


class View:
    """A view of a board's list, or of another view; boards alone make views and bring them up to date."""

    def __init__(self, owner, parent, kind, name, on, setting):
        self.owner = owner
        self.own_kind = kind
        self.own_name = name
        self.own_on = on
        self.own_setting = setting
        self.level = 1 if parent is None else parent.level + 1
        self.has_headers = kind == "grouped" or parent is not None and parent.has_headers
        self.sight = Sight([], {}, {})
        self.last_telling = None
        self.turn_count = 0
        self.is_over = False

    @property
    def name(self):
        """The name."""
        return self.own_name

    @property
    def on(self):
        """The name of the parent, or None for the list."""
        return self.own_on

    @property
    def kind(self):
        """The kind: the name of the method of boards that made the view."""
        return self.own_kind

    @property
    def turns(self):
        """The number of turns in which the rows or their values changed."""
        return self.turn_count

    @property
    def is_closed(self):
        """True if the view was closed."""
        return self.is_over

    @property
    def setting(self):
        """The function, or the tuple (start, count) of a window; also while it is pending."""
        return self.own_setting

    @setting.setter
    def setting(self, value):
        self.owner.change_setting_of(self, value)

    def change_setting(self, value):
        """Give the view another setting."""
        self.owner.change_setting_of(self, value)

    def rows(self):
        """Return the list of the rows."""
        return list(self.sight.shown_rows)

    def pairs(self):
        """Return the list of the tuples (row, value)."""
        return state_of(self.sight)

    def worth(self, row):
        """Return the value of a row; for a header it is the number of rows of its group."""
        need_row(row, self.sight.shown_rows)
        return worth_in(self.sight, row)

    def place(self, row):
        """Return the index of a row."""
        need_row(row, self.sight.shown_rows)
        return self.sight.shown_rows.index(row)

    def told(self):
        """Return the telling of the last turn in which rows or values changed, or None."""
        return self.last_telling

    def __len__(self):
        return len(self.sight.shown_rows)

    def __getitem__(self, index):
        need_integer(index, 0, len(self.sight.shown_rows) - 1)
        return self.sight.shown_rows[index]

    def __contains__(self, item):
        return has_row(self.sight.shown_rows, item)

    def __iter__(self):
        return iter(self.sight.shown_rows)

    def need_idle(self):
        """Raise Busy if a function of a view of this board is being called."""
        self.owner.need_idle()

    def follow(self, follower):
        """Call `follower.passed(before, after)` behind each turn in which the rows change."""
        self.owner.followers.append((self, follower))

    def show(self, sight):
        """Show what a turn has led to, and tell what changed."""
        telling = Telling.between(self.pairs(), state_of(sight))
        self.sight = sight
        if telling:
            self.last_telling = telling
            self.turn_count += 1


def has_row(rows, value):
    """Return True if any value is one of the rows."""
    # Python takes True for 1, so a header must be one before it is compared.
    return is_row(value) and value in rows


def need_row(value, rows):
    """Raise UnknownRow unless the value is one of the rows."""
    if not has_row(rows, value):
        raise UnknownRow(value)


def need_open_view(value):
    """Raise InvalidView or UnknownView unless the value is a view that was not closed."""
    if not isinstance(value, View):
        raise InvalidView(value)
    if value.is_over:
        raise UnknownView(value.own_name)
