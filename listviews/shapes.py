"""Shapes: how the rows of a view follow from those of its parent and from what a function answered."""

from listviews.checks import need_integer
from listviews.checks import need_rows
from listviews.errors import InvalidAnswer
from listviews.errors import InvalidRows
from listviews.errors import UnknownName
from listviews.errors import UnknownRow
from listviews.values import MOST_ROWS
from listviews.values import answer_of
from listviews.values import is_list
from listviews.values import is_name

# The rows of a list of records, of which a view with answers shows some.
MOST_PLAIN_ROWS = 40
MOST_STEPS_ASKED = 999
FACTORS = {"filtered": 1, "ordered": 1, "unique": 2, "window": 2, "grouped": 3, "mapped": 1}


def filtered(rows, answers):
    """Return the rows whose answer is True."""
    need_rows_with_answers(rows, answers)
    for row in rows:
        if not isinstance(answer_for(row, answers), bool):
            raise InvalidAnswer(answers[row])
    return [row for row in rows if answers[row]]


def ordered(rows, answers):
    """Return the rows by ascending answers; equal answers keep the order."""
    found = full_answers(rows, answers)
    return sorted(rows, key=lambda row: found[row])


def first_ones(rows, answers):
    """Return the rows whose answer no earlier row has."""
    found = full_answers(rows, answers)
    firsts = {}
    for row in rows:
        firsts.setdefault(found[row], row)
    return list(firsts.values())


def grouped(rows, answers):
    """Return the tuple of the rows behind the headers of their answers, and of the number behind each header."""
    found = full_answers(rows, answers)
    groups = {}
    for row in rows:
        groups.setdefault(found[row], []).append(row)
    with_headers = []
    counts = {}
    for answer in sorted(list(groups)):
        header = ("group", answer)
        with_headers.extend([header, *groups[answer]])
        counts[header] = len(groups[answer])
    return (with_headers, counts)


def window(rows, start, count):
    """Return so many of the rows, from the index `start` on."""
    need_rows(rows)
    need_integer(start, 0, MOST_ROWS)
    need_integer(count, 0, MOST_ROWS)
    return list(rows[start : start + count])


def factor(kind):
    """Return by how much a view of this kind multiplies the steps of its parent at most."""
    need_kind(kind)
    return FACTORS[kind]


def most_steps(kind, steps, differing):
    """Return how many steps a view of this kind tells at most when its parent tells so much."""
    need_kind(kind)
    need_integer(steps, 0, MOST_STEPS_ASKED)
    need_integer(differing, 0, MOST_STEPS_ASKED)
    if kind == "mapped":
        return steps
    if kind == "window":
        return 2 * steps
    if kind == "grouped":
        return 2 * steps + 3 * differing
    return FACTORS[kind] * (steps + differing)


def need_kind(value):
    """Raise UnknownName unless the value is one of the kinds of views."""
    if not is_kind(value):
        raise UnknownName(value)


def is_kind(value):
    """Return True if the value is one of the kinds of views."""
    return isinstance(value, str) and value in FACTORS


def need_rows_with_answers(rows, answers):
    """Raise InvalidRows or InvalidAnswer unless there are rows that are names, and a dict."""
    if not is_list(rows, MOST_PLAIN_ROWS) or not all([is_name(row) for row in rows]):
        raise InvalidRows(rows)
    if len(set(rows)) != len(rows):
        raise InvalidRows(rows)
    if not isinstance(answers, dict):
        raise InvalidAnswer(answers)


def answer_for(row, answers):
    """Return the entry of a row."""
    if row not in answers:
        raise UnknownRow(row)
    return answers[row]


def full_answers(rows, answers):
    """Return the dict of the answers for which the entries of the rows stand."""
    need_rows_with_answers(rows, answers)
    return {row: answer_of(answer_for(row, answers)) for row in rows}
