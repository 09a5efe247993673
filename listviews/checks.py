"""Checks of arguments, each with the exception that says what is wrong."""

from listviews.errors import InvalidInteger
from listviews.errors import InvalidName
from listviews.errors import InvalidRows
from listviews.errors import InvalidValue
from listviews.values import is_integer
from listviews.values import is_name
from listviews.values import is_rows
from listviews.values import is_value


def need_integer(value, low, high):
    """Raise InvalidInteger unless the value is an integer from low to high."""
    if not is_integer(value, low, high):
        raise InvalidInteger(value)


def need_name(value):
    """Raise InvalidName unless the value is a name."""
    if not is_name(value):
        raise InvalidName(value)


def need_value(value):
    """Raise InvalidValue unless the value is the value of a record."""
    if not is_value(value):
        raise InvalidValue(value)


def need_record(key, value):
    """Raise InvalidName or InvalidValue unless key and value make a record."""
    need_name(key)
    need_value(value)


def need_rows(value):
    """Raise InvalidRows unless the value is a list of rows."""
    if not is_rows(value):
        raise InvalidRows(value)
