"""Checks of arguments, each with the exception that says what is wrong."""

from listviews.errors import InvalidFunction
from listviews.errors import InvalidInteger
from listviews.errors import InvalidName
from listviews.errors import InvalidRows
from listviews.errors import InvalidValue
from listviews.values import MOST_ROWS
from listviews.values import is_integer
from listviews.values import is_name
from listviews.values import is_rows
from listviews.values import is_value


def need_integer(value, low, high):
    """Raise InvalidInteger unless the value is an integer from low to high."""
    if not is_integer(value, low, high):
        raise InvalidInteger(value)


def need_name(value):
    """Raise InvalidName unless the value is a name."""
    if not is_name(value):
        raise InvalidName(value)


def need_value(value):
    """Raise InvalidValue unless the value is the value of a record."""
    if not is_value(value):
        raise InvalidValue(value)


def need_record(key, value):
    """Raise InvalidName or InvalidValue unless key and value make a record."""
    need_name(key)
    need_value(value)


def need_rows(value):
    """Raise InvalidRows unless the value is a list of rows."""
    if not is_rows(value):
        raise InvalidRows(value)


def need_function(value):
    """Raise InvalidFunction if the value is of a kind that cannot be called."""
    if value is None or isinstance(value, (int, str, list, tuple, dict)):
        raise InvalidFunction(value)


def need_setting(kind, value):
    """Raise InvalidFunction or InvalidInteger unless the value is a setting of this kind of views."""
    if kind != "window":
        need_function(value)
    elif not is_bounds(value):
        raise InvalidInteger(value)


def is_bounds(value):
    """Return True if the value is a tuple of two integers that a window can have."""
    if not isinstance(value, tuple) or len(value) != 2:
        return False
    return all([is_integer(item, 0, MOST_ROWS) for item in value])
