"""Records that suffice to tell any two conditions with given leaves apart."""

from listviews.values import LETTERS
from listviews.values import MOST_FIELDS


def candidate_records(bounds, groups):
    """Yield a record for each set of leaves that can hold for one record.

    `bounds` is the list of the tuples (field, low, high) of the leaves on fields,
    `groups` the list of the tuples of names of the leaves on keys.
    """
    values = candidate_values(bounds)
    for key in candidate_keys(groups):
        for value in values:
            yield (key, value)


def candidate_keys(groups):
    """Return a name for each set of groups that have a name in common, and one of no group."""
    names = [name for group in groups for name in group]
    found = {}
    for name in [*names, unused_name(names)]:
        found.setdefault(tuple([name in group for group in groups]), name)
    return list(found.values())


def candidate_values(bounds):
    """Return a value for each set of leaves on fields that can hold for one value.

    A field that no leaf finds between its bounds is left out, since six other
    fields may be needed.
    """
    fields = sorted(set([field for field, low, high in bounds]))
    values = [{}]
    for field in fields:
        numbers = candidate_numbers([(low, high) for name, low, high in bounds if name == field])
        values = values + [
            {**value, field: number} for value in values if len(value) < MOST_FIELDS for number in numbers
        ]
    # The first value stands for all fields left out, but a value is never empty.
    values[0] = {unused_name(fields): 0}
    return values


def candidate_numbers(ranges):
    """Return an integer for each set of ranges, except the empty one, that have one in common."""
    found = {}
    for low, high in ranges:
        # Only at these two integers another set of ranges begins.
        for number in (low, high + 1):
            holding = tuple([first <= number <= last for first, last in ranges])
            if any(holding):
                found.setdefault(holding, number)
    return list(found.values())


def unused_name(names):
    """Return a name other than these; two conditions together do not use all letters."""
    return min([letter for letter in LETTERS if letter not in names])
