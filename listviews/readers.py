"""Readers: they look at a view now and then, and are told at once what changed in the meantime."""

from listviews.sights import state_of
from listviews.telling import Telling
from listviews.views import need_open_view


class Reader:
    """Knows which state of a view it saw last."""

    def __init__(self, view):
        need_open_view(view)
        self.followed = view
        self.sight_seen = view.sight
        self.turns_seen = view.turns

    @property
    def view(self):
        """The view."""
        return self.followed

    @property
    def behind(self):
        """The number of turns since the reader looked in which rows or values changed."""
        return self.followed.turns - self.turns_seen

    def seen(self):
        """Return the state that the reader saw last."""
        return state_of(self.sight_seen)

    def take(self):
        """Return the telling that leads from the state seen last to that of now, which has been seen then."""
        telling = Telling.between(self.seen(), self.followed.pairs())
        self.sight_seen = self.followed.sight
        self.turns_seen = self.followed.turns
        return telling
