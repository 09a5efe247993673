"""Boards: a list of records, and views of it that are brought up to date in turns."""

from listviews.checks import need_function
from listviews.checks import need_integer
from listviews.checks import need_name
from listviews.checks import need_setting
from listviews.errors import Busy
from listviews.errors import Held
from listviews.errors import InUse
from listviews.errors import NameTaken
from listviews.errors import NotHeld
from listviews.errors import NotPlain
from listviews.errors import NothingToRedo
from listviews.errors import NothingToUndo
from listviews.errors import TooMany
from listviews.errors import UnknownView
from listviews.records import Records
from listviews.sights import next_sights
from listviews.sights import sight_of_list
from listviews.sights import state_of
from listviews.telling import Telling
from listviews.turns import Hold
from listviews.turns import no_operations
from listviews.values import MOST_ROWS
from listviews.values import is_name
from listviews.views import View

MOST_VIEWS = 8
MOST_LEVELS = 4


class Board:
    """A list of records, which shows them as they are now, and views, which show those of the last turn.

    Whatever a turn leads to is found out before anything is changed, since a
    function of a view may fail, and may look at the board while it is asked.
    """

    def __init__(self, records=()):
        self.records_now = records if isinstance(records, Records) else Records(records)
        self.list_sight = sight_of_list(self.records_now)
        self.list_telling = None
        # The operations since the last turn.
        self.draft = no_operations(self.records_now)
        self.done_turns = []
        self.undone_turns = []
        self.open_views = {}
        # Tuples (view, follower).
        self.followers = []
        self.hold_count = 0
        self.is_asking = False

    def names(self):
        """Return the list of the keys."""
        return self.records_now.names()

    def pairs(self):
        """Return the list of the tuples (key, value)."""
        return self.records_now.pairs()

    def __getitem__(self, key):
        return self.records_now[key]

    def __len__(self):
        return len(self.records_now)

    def __contains__(self, item):
        return item in self.records_now

    def __iter__(self):
        return iter(self.records_now.own_names)

    def __eq__(self, other):
        return (
            isinstance(other, Board)
            and self.records_now == other.records_now
            and outlines_of(self) == outlines_of(other)
        )

    def add(self, key, value, *, index=None):
        """Put a record in, at this index or as the last one."""
        self.need_idle()
        self.operate(self.draft.with_records(self.records_now.inserted(key, value, index=index)))

    def remove(self, key):
        """Take a record out."""
        self.need_idle()
        self.operate(self.draft.with_records(self.records_now.removed(key)))

    def move(self, key, index):
        """Put a record at another index."""
        self.need_idle()
        self.operate(self.draft.with_records(self.records_now.moved(key, index)))

    def __setitem__(self, key, value):
        self.need_idle()
        self.operate(self.draft.with_records(self.records_now.replaced(key, value)))

    def __iadd__(self, other):
        self.need_idle()
        self.operate(self.draft.with_records(self.records_now.extended(other)))
        return self

    def change_setting_of(self, view, value):
        """Give a view another setting."""
        self.need_idle()
        need_setting(view.own_kind, value)
        if view.is_over:
            raise UnknownView(view.own_name)
        self.operate(self.draft.with_setting(view.own_name, view.own_setting, value))

    def operate(self, draft):
        """Perform a turn for all operations of a draft, or keep them pending during a hold."""
        if self.hold_count > 0:
            self.take_over(draft)
        else:
            self.perform(draft, [*self.done_turns, draft], [])

    def held(self):
        """Return an object for one block of a `with` statement, in which operations are pending."""
        self.need_idle()
        return Hold(self)

    def hold(self):
        """Begin a hold."""
        self.need_idle()
        self.hold_count += 1

    def release(self):
        """End the hold that was begun last."""
        self.need_idle()
        if self.hold_count == 0:
            raise NotHeld()
        self.hold_count -= 1

    def tell(self):
        """Perform a turn for all pending operations."""
        self.need_idle()
        if self.hold_count > 0:
            raise Held()
        if self.draft.operations > 0:
            self.perform(self.draft, [*self.done_turns, self.draft], [])

    def drop(self):
        """Take all pending operations back."""
        self.need_idle()
        self.settle(self.draft.taken_back())

    @property
    def pending(self):
        """The number of pending operations."""
        return self.draft.operations

    @property
    def is_held(self):
        """True during a hold."""
        return self.hold_count > 0

    def filtered(self, name, where, *, on=None):
        """Make a view of the rows for which a function answers True."""
        return self.view_with_function("filtered", name, where, on)

    def ordered(self, name, by, *, on=None):
        """Make a view of all rows by ascending answers of a function."""
        return self.view_with_function("ordered", name, by, on)

    def unique(self, name, by, *, on=None):
        """Make a view of the first row with each answer of a function."""
        return self.view_with_function("unique", name, by, on)

    def grouped(self, name, by, *, on=None):
        """Make a view of all rows behind headers, one for each answer of a function."""
        return self.view_with_function("grouped", name, by, on)

    def mapped(self, name, function, *, on=None):
        """Make a view of all rows with the values that a function answers."""
        return self.view_with_function("mapped", name, function, on)

    def window(self, name, start, count, *, on=None):
        """Make a view of so many rows from an index on."""
        self.need_idle()
        need_name(name)
        need_integer(start, 0, MOST_ROWS)
        need_integer(count, 0, MOST_ROWS)
        return self.made_view("window", name, (start, count), on)

    def view_with_function(self, kind, name, function, on):
        """Make a view of a kind that asks a function, and return it."""
        self.need_idle()
        need_name(name)
        need_function(function)
        return self.made_view(kind, name, function, on)

    def made_view(self, kind, name, setting, on):
        """Make a view whose name and setting have been checked, and return it."""
        parent = None if on is None else self.view_of(on)
        self.need_nothing_pending()
        if name in self.open_views:
            raise NameTaken(name)
        if kind != "window" and parent is not None and parent.has_headers:
            raise NotPlain(on)
        if len(self.open_views) == MOST_VIEWS:
            raise TooMany(MOST_VIEWS + 1)
        view = View(self, parent, kind, name, on, setting)
        if view.level > MOST_LEVELS:
            raise TooMany(view.level)
        above = {on: self.list_sight if parent is None else parent.sight}
        view.sight = self.asked([view], {}, above, above)[name]
        self.open_views[name] = view
        return view

    def views(self):
        """Return the names of the views in the order in which they were made."""
        return list(self.open_views)

    def view_of(self, name):
        """Return the view with this name."""
        if not is_name(name) or name not in self.open_views:
            raise UnknownView(name)
        return self.open_views[name]

    def close(self, name):
        """Remove a view."""
        self.need_idle()
        view = self.view_of(name)
        self.need_nothing_pending()
        if name in [one.own_on for one in list(self.open_views.values())]:
            raise InUse(name)
        view.is_over = True
        del self.open_views[name]
        self.done_turns = []
        self.undone_turns = []

    def told(self):
        """Return the telling of the last turn in which the records or their order changed, or None."""
        return self.list_telling

    def undo(self):
        """Take back the last turn that performed operations and was not taken back."""
        self.need_idle()
        self.need_nothing_pending()
        if self.done_turns == []:
            raise NothingToUndo()
        turn = self.done_turns[-1]
        self.perform(turn.taken_back(), self.done_turns[:-1], [*self.undone_turns, turn])

    def redo(self):
        """Perform the operations again that the last `undo` took back."""
        self.need_idle()
        self.need_nothing_pending()
        if self.undone_turns == []:
            raise NothingToRedo()
        turn = self.undone_turns[-1]
        self.perform(turn, [*self.done_turns, turn], self.undone_turns[:-1])

    @property
    def undo_count(self):
        """The number of turns that can be taken back."""
        return len(self.done_turns)

    @property
    def redo_count(self):
        """The number of turns that can be performed again."""
        return len(self.undone_turns)

    def need_idle(self):
        """Raise Busy if a function of a view is being called."""
        if self.is_asking:
            raise Busy()

    def need_nothing_pending(self):
        """Raise Held if operations are pending or a hold lasts."""
        if self.draft.operations > 0 or self.hold_count > 0:
            raise Held()

    def asked(self, views, settings, old, new):
        """Return the next sights of views by their names; meanwhile functions are called."""
        self.is_asking = True
        try:
            return next_sights(views, settings, old, new)
        finally:
            self.is_asking = False

    def perform(self, turn, done_turns, undone_turns):
        """Bring the list and all views up to date, behind which these turns are done and undone."""
        views = list(self.open_views.values())
        list_sight = sight_of_list(turn.new_records)
        sights = self.asked(views, turn.new_settings, {None: self.list_sight}, {None: list_sight})
        self.done_turns = done_turns
        self.undone_turns = undone_turns
        self.settle(turn)
        telling = Telling.between(state_of(self.list_sight), state_of(list_sight))
        self.list_sight = list_sight
        if telling:
            self.list_telling = telling
        rows_before = {view: view.rows() for view in views}
        for view in views:
            view.show(sights[view.own_name])
        self.call_followers(rows_before)

    def call_followers(self, rows_before):
        """Call the followers of the views whose rows changed in a turn."""
        changed = {view: view.rows() for view in rows_before if view.rows() != rows_before[view]}
        for view, follower in list(self.followers):
            if view in changed:
                follower.passed(list(rows_before[view]), list(changed[view]))

    def settle(self, turn):
        """Take over the records and settings of a turn, with nothing pending any more."""
        self.take_over(turn)
        self.draft = no_operations(turn.new_records)

    def take_over(self, draft):
        """Show the records and settings of a draft as those of now."""
        self.draft = draft
        self.records_now = draft.new_records
        for name, setting in draft.new_settings.items():
            view = self.open_views[name]
            view.own_setting = setting


def outlines_of(board):
    """Return what all views of a board were made of, in their order."""
    views = list(board.open_views.values())
    return [(view.own_name, view.own_kind, view.own_on, view.own_setting) for view in views]
