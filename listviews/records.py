"""Lists of records that never change; what would change one makes another one."""

from listviews.checks import need_integer
from listviews.checks import need_record
from listviews.checks import need_value
from listviews.errors import InvalidRecords
from listviews.errors import KeyTaken
from listviews.errors import TooMany
from listviews.errors import UnknownKey
from listviews.lists import with_item
from listviews.lists import without_index
from listviews.values import is_list

MOST_RECORDS = 40


class Records:
    """A list of records; `pairs` is a list of tuples (key, value)."""

    def __init__(self, pairs=()):
        self.own_pairs = checked_pairs(pairs, [])
        self.own_names = [key for key, value in self.own_pairs]

    def names(self):
        """Return the list of the keys."""
        return list(self.own_names)

    def pairs(self):
        """Return the list of the tuples (key, value)."""
        return [(key, dict(value)) for key, value in self.own_pairs]

    def place(self, key):
        """Return the index of the record with a key."""
        if key not in self.own_names:
            raise UnknownKey(key)
        return self.own_names.index(key)

    def __getitem__(self, key):
        at = self.place(key)
        return dict(self.own_pairs[at][1])

    def __len__(self):
        return len(self.own_pairs)

    def __contains__(self, item):
        return item in self.own_names

    def __iter__(self):
        return iter(self.own_names)

    def __eq__(self, other):
        return isinstance(other, Records) and self.own_pairs == other.own_pairs

    def inserted(self, key, value, *, index=None):
        """Return the records with one more, which has this index or is the last one."""
        need_record(key, value)
        if index is not None:
            need_integer(index, 0, len(self.own_pairs))
        if key in self.own_names:
            raise KeyTaken(key)
        need_room(len(self.own_pairs) + 1)
        at = len(self.own_pairs) if index is None else index
        return Records(with_item(self.own_pairs, at, (key, value)))

    def removed(self, key):
        """Return the records without one of them."""
        return Records(without_index(self.own_pairs, self.place(key)))

    def moved(self, key, index):
        """Return the records with one of them at another index."""
        need_integer(index, 0, len(self.own_pairs) - 1)
        at = self.place(key)
        return Records(with_item(without_index(self.own_pairs, at), index, self.own_pairs[at]))

    def replaced(self, key, value):
        """Return the records with another value for a key."""
        need_value(value)
        at = self.place(key)
        return Records(with_item(without_index(self.own_pairs, at), at, (key, value)))

    def extended(self, pairs):
        """Return the records with those of a list behind them."""
        joined = self.own_pairs + checked_pairs(pairs, self.own_names)
        need_room(len(joined))
        return Records(joined)


def checked_pairs(pairs, taken):
    """Return a copy of a list of tuples (key, value) whose keys are not taken."""
    if not is_list(pairs, MOST_RECORDS):
        raise InvalidRecords(pairs)
    names = list(taken)
    copies = []
    for item in pairs:
        if not isinstance(item, tuple) or len(item) != 2:
            raise InvalidRecords(item)
        key, value = item
        need_record(key, value)
        if key in names:
            raise KeyTaken(key)
        names.append(key)
        copies.append((key, dict(value)))
    return copies


def need_room(count):
    """Raise TooMany if a list cannot have so many records."""
    if count > MOST_RECORDS:
        raise TooMany(count)


def need_records(value):
    """Raise InvalidRecords unless the value is a Records object."""
    if not isinstance(value, Records):
        raise InvalidRecords(value)


def differing(one, other):
    """Return the keys that both have, with values that are not equal, in the order of the second."""
    need_records(one)
    need_records(other)
    return [key for key in other if key in one and one[key] != other[key]]
