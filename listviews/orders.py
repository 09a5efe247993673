"""Orders of records by up to three fields, what parts two of them, and functions that add."""

from listviews.checks import need_integer
from listviews.checks import need_name
from listviews.checks import need_record
from listviews.errors import BoardError
from listviews.errors import InvalidOrder
from listviews.errors import InvalidText
from listviews.errors import TooMany
from listviews.values import GREATEST
from listviews.values import is_name
from listviews.values import is_value
from listviews.values import parse_integer
from listviews.values import split_words

MOST_IN_ORDER = 3
# Less than every integer of a value.
MISSING = -1000


class By:
    """An order: answers with the integers of some fields, negated behind a minus sign."""

    def __init__(self, *fields):
        if fields == ():
            raise InvalidOrder(fields)
        if len(fields) > MOST_IN_ORDER:
            raise TooMany(len(fields))
        for field in fields:
            if not is_signed_field(field):
                raise InvalidOrder(field)
        self.signed_fields = fields

    @property
    def fields(self):
        """The tuple of the fields, each with its sign."""
        return self.signed_fields

    def __call__(self, key, value):
        need_record(key, value)
        return self.answer_for(value)

    def answer_for(self, value):
        """Return the answer for a value that has been checked."""
        return tuple([number_for(field, value) for field in self.signed_fields])

    def __add__(self, other):
        more = fields_of(other)
        joined = (*self.signed_fields, *more)
        return By(*joined)

    def __radd__(self, other):
        before = fields_of(other)
        joined = (*before, *self.signed_fields)
        return By(*joined)

    def __neg__(self):
        fields = [opposite(field) for field in self.signed_fields]
        return By(*fields)

    def __eq__(self, other):
        return isinstance(other, By) and self.signed_fields == other.signed_fields

    def __str__(self):
        return " ".join(self.signed_fields)

    def plain(self):
        """Return the order without the fields that make no difference."""
        fields = telling_fields(self.signed_fields)
        return By(*fields)

    def is_as_fine(self, other):
        """Return True if this order tells apart, in the same way, what the other one does."""
        need_order(other)
        wanted = telling_fields(other.signed_fields)
        return telling_fields(self.signed_fields)[: len(wanted)] == wanted

    @staticmethod
    def read(text):
        """Return the order with this text."""
        words = split_words(text)
        if words is None:
            raise InvalidText(text)
        try:
            return By(*words)
        except BoardError:
            raise InvalidText(text) from None


class Plus:
    """A function for mapped views: adds a number to the integer of a field."""

    def __init__(self, field, number):
        need_name(field)
        need_integer(number, -GREATEST, GREATEST)
        self.field_name = field
        self.summand = number

    @property
    def field(self):
        """The field."""
        return self.field_name

    @property
    def number(self):
        """The number that is added."""
        return self.summand

    def __call__(self, key, value):
        need_record(key, value)
        result = dict(value)
        if self.field_name in result:
            total = result[self.field_name] + self.summand
            result[self.field_name] = max(-GREATEST, min(GREATEST, total))
        return result

    def __eq__(self, other):
        return isinstance(other, Plus) and self.field_name == other.field_name and self.summand == other.summand

    def __str__(self):
        return f"plus {self.field_name} {self.summand}"

    @staticmethod
    def read(text):
        """Return the function with this text."""
        words = split_words(text)
        if words is None or len(words) != 3 or words[0] != "plus":
            raise InvalidText(text)
        try:
            return Plus(words[1], parse_integer(words[2]))
        except BoardError:
            raise InvalidText(text) from None


def is_signed_field(value):
    """Return True for a name and for a name behind a minus sign."""
    return isinstance(value, str) and is_name(value.removeprefix("-"))


def is_negative(field):
    """Return True if a field has a minus sign."""
    return field[0] == "-"


def opposite(field):
    """Return a field with the other sign."""
    return field[1:] if is_negative(field) else f"-{field}"


def number_for(field, value):
    """Return the integer with which a field with its sign answers for a value."""
    number = value.get(field.removeprefix("-"), MISSING)
    return -number if is_negative(field) else number


def fields_of(operand):
    """Return the fields for which an order, or a string in its place, stands."""
    if isinstance(operand, By):
        return operand.signed_fields
    if is_signed_field(operand):
        return (operand,)
    raise InvalidOrder(operand)


def telling_fields(fields):
    """Return the fields that do not stand earlier, too, with whichever sign."""
    found = {}
    for field in fields:
        found.setdefault(field.removeprefix("-"), field)
    return list(found.values())


def need_order(value):
    """Raise InvalidOrder unless the value is an order."""
    if not isinstance(value, By):
        raise InvalidOrder(value)


def order_parting(one, other):
    """Return two values that the second order tells apart otherwise than the first, or None."""
    need_order(one)
    need_order(other)
    if one.is_as_fine(other):
        return None
    ahead, wanted = telling_fields(one.signed_fields), telling_fields(other.signed_fields)
    # Ahead of this field both orders ask for the same, and the two values answer alike.
    at = [ahead[: count + 1] == wanted[: count + 1] for count in range(len(wanted))].index(False)
    ascending = [wanted[at]]
    # What the first order asks for here puts the values into the opposite order.
    if at < len(ahead):
        ascending.append(opposite(ahead[at]))
    names = [field.removeprefix("-") for field in ascending]
    lesser = {name: int(is_negative(field)) for name, field in zip(names, ascending)}
    return (lesser, {name: 1 - lesser[name] for name in names})


def is_order_parting(one, other, found):
    """Return True if the second order tells the two values found apart otherwise than the first."""
    need_order(one)
    need_order(other)
    if not isinstance(found, tuple) or len(found) != 2 or not all([is_value(value) for value in found]):
        return False
    first, second = found
    is_lesser = other.answer_for(first) < other.answer_for(second)
    return is_lesser and not one.answer_for(first) < one.answer_for(second)
