"""What several tests need: values of all kinds, rows, and a check of exceptions."""

from listviews.changes import Change
from listviews.conditions import Between
from listviews.conditions import Named
from listviews.orders import By
from listviews.orders import Plus
from listviews.records import Records


def a_function(key, value):
    return 1


def any_values():
    """Values of every kind that any parameter accepts."""
    return [
        None,
        True,
        False,
        0,
        1,
        -7,
        10**29,
        "",
        "ann",
        "Ann",
        "nine chars",
        "5",
        "a b",
        "a\nb",
        "group",
        a_function,
        Between("age"),
        Named(),
        By("age"),
        Plus("age", 1),
        Change(2, [1, 0]),
        Records([("ann", {"age": 30})]),
        [By("age"), Change(1, [])],
        [],
        (),
        {},
        ["ann", "bob"],
        ("ann", "bob"),
        [1, 2],
        (1, 2),
        ("group", (1, 2)),
        ["group", [1, 2]],
        ("group", [1]),
        ("group", True),
        {"age": 30},
        {1: 2},
        {"age": "x"},
        {"age": [3]},
        [[[[[[None]]]]]],
        (((((({"a": 1},),),),),),),
        [0] * 110,
        tuple(range(110)),
        {number: number for number in range(110)},
    ]


def rows_of(count):
    """A list of so many different rows, names and headers."""
    names = [one + other for one in "mnopqrst" for other in "abcdefghijklm"][:count]
    return [("group", (at, -at)) if at % 3 == 2 else name for at, name in enumerate(names)]


def other_rows_of(count):
    """A list of so many different rows, none of which rows_of has."""
    names = [one + other for one in "abcdefgh" for other in "abcdefghijklm"][:count]
    return [("group", (at,)) if at % 5 == 2 else name for at, name in enumerate(names)]


def assert_raises(case, error, field, passed, call, *args, **named):
    """Check that a call raises just this error, with the very object in its field."""
    with case.assertRaises(error) as caught:
        call(*args, **named)
    case.assertIs(error, caught.exception.__class__)
    held = getattr(caught.exception, field)
    if field in ("count", "index"):
        case.assertEqual((passed, int), (held, held.__class__))
    else:
        case.assertIs(passed, held)
