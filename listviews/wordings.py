"""Words for values, rows and settings, as texts of boards and command lines have them."""

from listviews.conditions import Condition
from listviews.orders import By
from listviews.orders import Plus
from listviews.values import GREATEST_IN_ANSWER
from listviews.values import is_name
from listviews.values import is_row
from listviews.values import is_value
from listviews.values import parse_integer


def value_text(value):
    """Return the fields of a value with their numbers."""
    return " ".join([f"{field}={value[field]}" for field in sorted(list(value))])


def read_value(words):
    """Return the value that these words state, or None."""
    value = {}
    for word in words:
        field, sign, number = word.partition("=")
        value[field] = parse_integer(number)
    # The value has these very words if its fields ascend and none of them stands twice.
    if not is_value(value) or value_text(value) != " ".join(words):
        return None
    return value


def row_text(row):
    """Return the word for a row."""
    if isinstance(row, str):
        return row
    numbers = ",".join([str(number) for number in row[1]])
    return f"#{numbers}"


def read_row(word):
    """Return the row that a word states, or None."""
    if not word.startswith("#"):
        return word if is_name(word) else None
    least, greatest = -GREATEST_IN_ANSWER, GREATEST_IN_ANSWER
    numbers = [parse_integer(number, low=least, high=greatest) for number in word[1:].split(",")]
    row = ("group", tuple(numbers))
    return row if is_row(row) else None


def setting_text(kind, setting):
    """Return the text of a setting, or None if its function has none for this kind of views."""
    if kind == "window":
        start, count = setting
        return f"{start} {count}"
    return str(setting) if has_text(kind, setting) else None


def has_text(kind, function):
    """Return True if a function can be written as the setting of this kind of views."""
    if kind == "filtered":
        return isinstance(function, Condition)
    if kind == "mapped":
        return isinstance(function, Plus)
    return isinstance(function, By)


def read_function(kind, text):
    """Return the function that a text states for this kind of views, or raise InvalidText."""
    if kind == "filtered":
        return Condition.read(text)
    if kind == "mapped":
        return Plus.read(text)
    return By.read(text)


def read_bounds_of(words, most):
    """Return the tuple of two numbers from 0 to `most` that these words state, or None."""
    numbers = [parse_integer(word, low=0, high=most) for word in words]
    if len(numbers) != 2 or None in numbers:
        return None
    return tuple(numbers)
