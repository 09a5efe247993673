"""Steps, one after another, and what shows that fewer of them do not do."""

from listviews.changes import need_change
from listviews.checks import need_rows
from listviews.errors import InvalidSteps
from listviews.errors import NotPossible
from listviews.lists import with_item
from listviews.lists import without_index
from listviews.plans import descents_of
from listviews.plans import longest_ascent
from listviews.values import MOST_ROWS
from listviews.values import is_integer
from listviews.values import is_list
from listviews.values import is_row

MOST_STEPS = 300


def apply_steps(rows, steps):
    """Return the list of rows after the steps."""
    need_rows(rows)
    need_steps(steps)
    return rows_after_all(rows, steps)


def walk_steps(rows, steps):
    """Yield the list of rows after each of the steps."""
    need_rows(rows)
    need_steps(steps)
    now = list(rows)
    # Whoever gets a list may do anything with it, and with the steps, ahead of the next one.
    for at, step in enumerate(list(steps)):
        now = rows_after_step(now, step, at)
        yield list(now)


def staying(change):
    """Return as many old indices of a change as possible that ascend in their new order."""
    need_change(change)
    return longest_ascent(change.kept())


def falls(change):
    """Return as few lists as possible that descend, so that each kept index is in one of them."""
    need_change(change)
    return descents_of(change.kept())


def is_certificate(change, some, lists):
    """Return True if indices that ascend and lists that descend show the fewest steps of a change."""
    need_change(change)
    kept = change.kept()
    if not is_ascent(some, kept) or not is_list(lists, len(kept)) or len(lists) != len(some):
        return False
    if not all([is_descent(indices, kept) for indices in lists]):
        return False
    return sorted([index for indices in lists for index in indices]) == sorted(kept)


def is_steps(change, steps, *, fewest=True):
    """Return True if steps have the effect of a change, and there are as few as possible if asked for."""
    need_change(change)
    if not is_list_of_steps(steps) or (fewest and len(steps) != len(change)):
        return False
    try:
        return rows_after_all(list(range(change.before)), steps) == change.after()
    except NotPossible:
        return False


def need_steps(value):
    """Raise InvalidSteps unless the value is a list of steps."""
    if not is_list_of_steps(value):
        raise InvalidSteps(value)


def is_list_of_steps(value):
    """Return True if the value is a list of steps."""
    return is_list(value, MOST_STEPS) and all([is_step(item) for item in value])


def is_step(value):
    """Return True if the value is a step, be it possible or not."""
    if not isinstance(value, tuple) or len(value) not in (2, 3) or not is_index(value[1]):
        return False
    if len(value) == 2:
        return value[0] == "remove"
    return value[0] == "move" and is_index(value[2]) or value[0] == "insert" and is_row(value[2])


def is_index(value):
    """Return True if the value is an index that a step may have."""
    return is_integer(value, 0, MOST_ROWS - 1)


def rows_after_all(rows, steps):
    """Return the list of rows after steps that have been checked."""
    now = list(rows)
    for at, step in enumerate(steps):
        now = rows_after_step(now, step, at)
    return now


def rows_after_step(rows, step, at):
    """Return the list of rows after the step that stands at this place in the list of steps."""
    if not is_possible(rows, step):
        raise NotPossible(at)
    index = step[1]
    if step[0] == "insert":
        return with_item(rows, index, step[2])
    others = without_index(rows, index)
    return others if step[0] == "remove" else with_item(others, step[2], rows[index])


def is_possible(rows, step):
    """Return True if a step can be performed on a list of rows."""
    if step[0] == "insert":
        return step[1] <= len(rows) < MOST_ROWS and step[2] not in rows
    return step[1] < len(rows) and (step[0] == "remove" or step[2] < len(rows))


def is_ascent(value, kept):
    """Return True if the value is a list of kept indices that ascend in their new order."""
    return is_selection(value, kept) and list(value) == sorted(value)


def is_descent(value, kept):
    """Return True if the value is a list of kept indices that descend in their new order."""
    return is_selection(value, kept) and list(value) == sorted(value, reverse=True)


def is_selection(value, kept):
    """Return True if the value is a list of kept indices, each one ahead of the next one there."""
    if not is_list(value, len(kept)) or not all([is_index(item) and item in kept for item in value]):
        return False
    places = [kept.index(item) for item in value]
    return places == sorted(set(places))
