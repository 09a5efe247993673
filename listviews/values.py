"""Names, values, answers, rows and words: what records and texts consist of."""

from listviews.errors import InvalidAnswer

LETTERS = "abcdefghijklmnopqrstuvwxyz"
DIGITS = "0123456789"
MOST_LETTERS = 8
MOST_FIELDS = 6
MOST_ROWS = 80
MOST_IN_ANSWER = 3
MOST_DIGITS = 30
GREATEST = 999
GREATEST_IN_ANSWER = 9999


def is_integer(value, low, high):
    """Return True if the value is an integer from low to high."""
    if not isinstance(value, int) or isinstance(value, bool):
        return False
    return low <= value <= high


def is_name(value):
    """Return True if the value is a name."""
    if not isinstance(value, str) or not 1 <= len(value) <= MOST_LETTERS:
        return False
    return all([letter in LETTERS for letter in value])


def is_value(value):
    """Return True if the value is the value of a record."""
    if not isinstance(value, dict) or not 1 <= len(value) <= MOST_FIELDS:
        return False
    return all([is_name(field) and is_integer(value[field], -GREATEST, GREATEST) for field in value])


def is_row(value):
    """Return True if the value is a row: a key or a header."""
    if isinstance(value, tuple):
        return len(value) == 2 and value[0] == "group" and is_full_answer(value[1])
    return is_name(value)


def is_rows(value):
    """Return True if the value is a list of rows."""
    if not is_list(value, MOST_ROWS):
        return False
    return all([is_row(row) for row in value]) and len(set(value)) == len(value)


def is_list(value, most):
    """Return True if the value is a list, or a tuple in its place, with at most so many items."""
    return isinstance(value, (list, tuple)) and len(value) <= most


def is_answer(value):
    """Return True for an answer, and for an integer that stands for one."""
    return is_full_answer(value) or is_answer_item(value)


def answer_of(value):
    """Return the answer for which a value stands."""
    if is_full_answer(value):
        return value
    if is_answer_item(value):
        return (value,)
    raise InvalidAnswer(value)


def is_full_answer(value):
    """Return True for an answer, but not for an integer that stands for one."""
    if not isinstance(value, tuple) or not 1 <= len(value) <= MOST_IN_ANSWER:
        return False
    return all([is_answer_item(item) for item in value])


def is_answer_item(value):
    """Return True if an answer may contain the value."""
    return is_integer(value, -GREATEST_IN_ANSWER, GREATEST_IN_ANSWER)


def parse_integer(text, *, low=-999, high=999):
    """Return the integer from low to high that the text represents, or None."""
    if not isinstance(text, str) or text == "-0" or not is_decimal(text.removeprefix("-")):
        return None
    number = int(text)
    return number if low <= number <= high else None


def is_decimal(text):
    """Return True if the text is a number without a sign and without needless zeros."""
    if not 1 <= len(text) <= MOST_DIGITS:
        return False
    if text[0] == "0" and len(text) > 1:
        return False
    return all([digit in DIGITS for digit in text])


def split_words(text):
    """Return the words of a text with exactly one space between neighbors, or None."""
    if not isinstance(text, str) or "\n" in text:
        return None
    words = text.split(" ")
    return None if "" in words else words
