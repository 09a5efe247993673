"""Sights: what the list or a view shows after a turn, and how views get theirs from their parents."""

from listviews.errors import InvalidAnswer
from listviews.errors import InvalidValue
from listviews.errors import Refused
from listviews.shapes import filtered
from listviews.shapes import first_ones
from listviews.shapes import grouped
from listviews.shapes import ordered
from listviews.shapes import window
from listviews.values import answer_of
from listviews.values import is_answer
from listviews.values import is_value


class Sight:
    """Rows and the dict of their values; for a view also what its function answered for its parent's rows.

    A sight never changes, and neither do the dicts in it: whatever leaves it is a copy.
    """

    def __init__(self, rows, worths, answers):
        self.shown_rows = rows
        self.worths = worths
        self.answers = answers


def sight_of_list(records):
    """Return the sight of a list of records."""
    pairs = records.pairs()
    return Sight([key for key, value in pairs], {key: value for key, value in pairs}, {})


def worth_in(sight, row):
    """Return the value of a row, which may be modified."""
    worth = sight.worths[row]
    return dict(worth) if isinstance(worth, dict) else worth


def state_of(sight):
    """Return the list of the tuples (row, value)."""
    return [(row, worth_in(sight, row)) for row in sight.shown_rows]


def next_sights(views, settings, old, new):
    """Return the next sights of the list and of views, by their names; None stands for the list.

    `settings` has the new settings, by names. `old` and `new` have the sights of the
    views' parents, which are not among the views, before the turn and after it.
    """
    before = {name: old[name] for name in old}
    after = {name: new[name] for name in new}
    for view in views:
        name = view.own_name
        known = {}
        if name not in settings:
            known = known_answers(view.sight.answers, before[view.own_on], after[view.own_on])
        setting = settings.get(name, view.own_setting)
        before[name] = view.sight
        after[name] = sight_of_view(view, setting, known, after[view.own_on])
    return after


def known_answers(answers, before, after):
    """Return the answers for those rows of a parent that have the value which they had before."""
    return {row: answers[row] for row in answers if after.worths.get(row) == before.worths[row]}


def sight_of_view(view, setting, known, parent):
    """Return the sight of a view with a setting; its function is asked for what is not known."""
    if view.own_kind == "window":
        start, count = setting
        rows = window(parent.shown_rows, start, count)
        return Sight(rows, {row: parent.worths[row] for row in rows}, {})
    answers = all_answers(view, setting, known, parent)
    if view.own_kind == "mapped":
        return Sight(parent.shown_rows, answers, answers)
    if view.own_kind == "grouped":
        rows, counts = grouped(parent.shown_rows, answers)
        return Sight(rows, {row: counts[row] if row in counts else parent.worths[row] for row in rows}, answers)
    rows = rows_by_answers(view.own_kind, parent.shown_rows, answers)
    return Sight(rows, {row: parent.worths[row] for row in rows}, answers)


def rows_by_answers(kind, rows, answers):
    """Return those rows, in that order, that a view without headers shows."""
    if kind == "filtered":
        return filtered(rows, answers)
    return ordered(rows, answers) if kind == "ordered" else first_ones(rows, answers)


def all_answers(view, function, known, parent):
    """Return the answers for all rows of the parent; the function is asked for what is not known."""
    answers = {}
    for row in parent.shown_rows:
        if row in known:
            answers[row] = known[row]
        else:
            result = function(row, worth_in(parent, row))
            answers[row] = accepted_answer(view, row, result)
    return answers


def accepted_answer(view, row, result):
    """Return what a function answered, as a view keeps it; raise Refused if it is none of its answers."""
    if view.own_kind == "mapped":
        if not is_value(result):
            raise Refused(view.own_name, row) from InvalidValue(result)
        return dict(result)
    if view.own_kind == "filtered":
        if not isinstance(result, bool):
            raise Refused(view.own_name, row) from InvalidAnswer(result)
        return result
    if not is_answer(result):
        raise Refused(view.own_name, row) from InvalidAnswer(result)
    return answer_of(result)
