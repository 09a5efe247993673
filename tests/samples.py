"""What several tests need: values of all kinds, and a check of exceptions."""

from listviews.conditions import Between
from listviews.conditions import Named


def a_function(key, value):
    return 1


def any_values():
    """Values of every kind that any parameter accepts."""
    return [
        None,
        True,
        False,
        0,
        1,
        -7,
        10**29,
        "",
        "ann",
        "Ann",
        "nine chars",
        "5",
        "a b",
        "a\nb",
        "group",
        a_function,
        Between("age"),
        Named(),
        [],
        (),
        {},
        ["ann", "bob"],
        ("ann", "bob"),
        [1, 2],
        (1, 2),
        ("group", (1, 2)),
        ["group", [1, 2]],
        ("group", [1]),
        ("group", True),
        {"age": 30},
        {1: 2},
        {"age": "x"},
        {"age": [3]},
        [[[[[[None]]]]]],
        (((((({"a": 1},),),),),),),
        [0] * 110,
        tuple(range(110)),
        {number: number for number in range(110)},
    ]


def assert_raises(case, error, field, passed, call, *args, **named):
    """Check that a call raises just this error, with the very object in its field."""
    with case.assertRaises(error) as caught:
        call(*args, **named)
    case.assertIs(error, caught.exception.__class__)
    held = getattr(caught.exception, field)
    if field == "count":
        case.assertEqual((passed, int), (held, held.__class__))
    else:
        case.assertIs(passed, held)
