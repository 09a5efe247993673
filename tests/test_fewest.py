"""[51] to [54]: steps, and what shows that they are as few as possible."""

import inspect
import itertools
import random
import unittest

from listviews import fewest
from listviews.changes import Change
from listviews.errors import InvalidChange
from listviews.errors import InvalidRows
from listviews.errors import InvalidSteps
from listviews.errors import NotPossible
from listviews.fewest import apply_steps
from listviews.fewest import falls
from listviews.fewest import is_certificate
from listviews.fewest import is_steps
from listviews.fewest import staying
from listviews.fewest import walk_steps
from listviews.values import is_rows

from samples import any_values
from samples import assert_raises
from samples import rows_of

HEADER = ("group", (1, -2))
NO_STEPS = [
    (),
    ("remove",),
    ("remove", 0, 0),
    ("move", 0),
    ("move", 0, 1, 2),
    ("insert", 0),
    ("insert", 0, "x", "y"),
    ("insert", "x", 0),
    ("insert", "x"),
    ("delete", 0),
    ("Remove", 0),
    (0, "remove"),
    ("remove", -1),
    ("remove", 80),
    ("remove", True),
    ("remove", False),
    ("remove", None),
    ("remove", "a"),
    ("remove", [0]),
    ("move", -1, 0),
    ("move", 80, 0),
    ("move", True, 0),
    ("move", 0, -1),
    ("move", 0, 80),
    ("move", 0, False),
    ("move", 0, "x"),
    ("insert", -1, "x"),
    ("insert", 80, "x"),
    ("insert", False, "x"),
    ("insert", 0, "X"),
    ("insert", 0, 0),
    ("insert", 0, None),
    ("insert", 0, ["group", (1,)]),
    ("insert", 0, ("group", 1)),
    ("insert", 0, ("group", (True,))),
    (["remove"], 0),
    (None, 0),
    [("remove", 0)],
    ["remove", 0],
    ["move", 0, 0],
    ["insert", 0, "x"],
    {"remove": 0},
    "remove 0",
    None,
    0,
]


def walked(rows, steps):
    return list(walk_steps(rows, steps))


def all_permutations(most):
    return [order for count in range(most + 1) for order in itertools.permutations(range(count))]


def longest(numbers):
    """The greatest number of these numbers that ascend, found by trying all choices."""
    choices = itertools.product((False, True), repeat=len(numbers))
    chosen = [[number for number, taken in zip(numbers, choice) if taken] for choice in choices]
    return max(len(found) for found in chosen if found == sorted(found))


class StepsTest(unittest.TestCase):
    def check(self, rows, steps, expected):
        """Check what the steps make of the rows, for lists and for tuples."""
        for one, other in itertools.product((list, tuple), repeat=2):
            self.assertEqual(expected, apply_steps(one(rows), other(steps)))
        lists = walked(rows, steps)
        self.assertEqual([apply_steps(rows, steps[: at + 1]) for at in range(len(steps))], lists)
        self.assertEqual(expected, lists[-1] if lists else list(rows))

    def test_all_is_defined_in_this_file(self):
        for name in "apply_steps walk_steps staying falls is_certificate is_steps".split():
            self.assertEqual("listviews.fewest", getattr(fewest, name).__module__)
        self.assertTrue(inspect.isgeneratorfunction(walk_steps))

    def test_removing(self):
        for index, expected in ((0, ["b", "c"]), (1, ["a", "c"]), (2, ["a", "b"])):
            self.check(["a", "b", "c"], [("remove", index)], expected)

    def test_moving(self):
        rows = ["a", "b", HEADER, "d"]
        for index, target in itertools.product(range(4), repeat=2):
            expected = [row for row in rows if row != rows[index]]
            expected.insert(target, rows[index])
            self.check(rows, [("move", index, target)], expected)

    def test_inserting(self):
        for index, expected in ((0, [HEADER, "a", "b"]), (1, ["a", HEADER, "b"]), (2, ["a", "b", HEADER])):
            self.check(["a", "b"], [("insert", index, HEADER)], expected)
        self.check([], [("insert", 0, "x")], ["x"])

    def test_one_after_another(self):
        self.check(["a", "b", "c"], [("move", 0, 2), ("remove", 0), ("insert", 1, "x")], ["c", "x", "a"])
        self.check(["a"], [("remove", 0), ("insert", 0, "a"), ("insert", 0, "b"), ("move", 1, 0)], ["a", "b"])
        self.check(["a", "b"], [], ["a", "b"])
        self.check([], [], [])

    def test_bounds(self):
        rows = rows_of(80)
        self.check(rows, [("remove", 79)], rows[:79])
        self.check(rows, [("move", 79, 0)], rows[79:] + rows[:79])
        self.check(rows, [("move", 0, 79)], rows[1:] + rows[:1])
        self.check(rows[:79], [("insert", 79, "x")], rows[:79] + ["x"])
        self.check(rows, [("remove", 0), ("insert", 79, rows[0])], rows[1:] + rows[:1])

    def test_three_hundred_steps_are_allowed_and_more_are_not(self):
        self.check(["a", "b", "c"], [("move", 0, 2)] * 300, ["a", "b", "c"])
        for count in (301, 310):
            steps = [("move", 0, 2)] * count
            assert_raises(self, InvalidSteps, "value", steps, apply_steps, ["a", "b", "c"], steps)
            assert_raises(self, InvalidSteps, "value", steps, walked, ["a", "b", "c"], steps)

    def test_by_name(self):
        self.assertEqual(["b"], apply_steps(steps=[("remove", 0)], rows=["a", "b"]))
        self.assertEqual([["b"]], list(walk_steps(steps=[("remove", 0)], rows=["a", "b"])))

    def test_nothing_that_is_passed_is_modified(self):
        rows, steps = ["a", "b"], [("move", 0, 1), ("insert", 0, "x"), ("remove", 1)]
        result = apply_steps(rows, steps)
        result.append("z")
        walked(rows, steps)
        self.assertEqual((["a", "b"], 3), (rows, len(steps)))
        self.assertIsNot(rows, apply_steps(rows, []))

    def test_what_is_walked_may_be_modified(self):
        rows, steps, found = ["a", "b", "c"], [("move", 0, 2), ("remove", 0), ("insert", 1, "x")], []
        for now in walk_steps(rows, steps):
            found.append(tuple(now))
            now.clear()
            rows.clear()
            steps.clear()
        self.assertEqual([("b", "c", "a"), ("c", "a"), ("c", "x", "a")], found)
        lists = walked(["a"], [("move", 0, 0)] * 3)
        self.assertEqual(3, len({id(now) for now in lists}))


class RefusedStepsTest(unittest.TestCase):
    def test_rows_must_be_a_list_of_rows(self):
        for value in any_values():
            if not is_rows(value):
                for call in (apply_steps, walked):
                    assert_raises(self, InvalidRows, "value", value, call, value, [])
                    assert_raises(self, InvalidRows, "value", value, call, value, None)
        for value in (["a", "a"], rows_of(81), [0]):
            assert_raises(self, InvalidRows, "value", value, apply_steps, value, [("remove", 7)])

    def test_steps_must_be_a_list_of_steps(self):
        for value in any_values():
            if value not in ([], ()):
                assert_raises(self, InvalidSteps, "value", value, apply_steps, ["a"], value)
                assert_raises(self, InvalidSteps, "value", value, walked, ["a"], value)
                self.assertIs(False, is_steps(Change.same(1), value, fewest=False))
        self.assertIs(True, is_steps(Change.same(1), ()))

    def test_each_item_must_be_a_step(self):
        for step in NO_STEPS:
            for steps in ([step], [("remove", 0), step], (step, ("remove", 0)), [("remove", 9), step]):
                assert_raises(self, InvalidSteps, "value", steps, apply_steps, ["a", "b"], steps)
                assert_raises(self, InvalidSteps, "value", steps, walked, ["a", "b"], steps)
                self.assertIs(False, is_steps(Change(2, [0]), steps, fewest=False))

    def test_a_step_alone_is_no_list(self):
        for step in (("remove", 0), ("move", 0, 1), ("insert", 0, "x")):
            assert_raises(self, InvalidSteps, "value", step, apply_steps, ["a", "b"], step)

    def test_impossible_steps(self):
        rows = rows_of(80)
        for before, step in (
            ([], ("remove", 0)),
            (["a"], ("remove", 1)),
            (rows[:79], ("remove", 79)),
            ([], ("move", 0, 0)),
            (["a", "b"], ("move", 2, 0)),
            (["a", "b"], ("move", 2, 1)),
            (["a", "b"], ("move", 0, 2)),
            (["a", "b"], ("move", 1, 2)),
            (["a"], ("move", 0, 1)),
            (rows[:79], ("move", 0, 79)),
            ([], ("insert", 1, "x")),
            (["a", "b"], ("insert", 3, "x")),
            (rows[:78], ("insert", 79, "x")),
            (["a", "b"], ("insert", 0, "b")),
            (["a", HEADER], ("insert", 2, tuple(["group", (1, -2)]))),
            (rows, ("insert", 0, "x")),
            (rows, ("insert", 79, "x")),
        ):
            self.check(before, [step], 0)
            self.check(before, [step, ("remove", 79), ("remove", 79)], 0)
            if before:
                stays = [("move", len(before) - 1, len(before) - 1)]
                self.check(before, stays * 3 + [step], 3)
                self.check(before, stays * 299 + [step], 299)

    def check(self, rows, steps, index):
        assert_raises(self, NotPossible, "index", index, apply_steps, rows, steps)
        found = []
        with self.assertRaises(NotPossible) as caught:
            for now in walk_steps(rows, steps):
                found.append(now)
        self.assertEqual((index, index), (caught.exception.index, len(found)))

    def test_the_generator_raises_when_the_first_list_is_asked_for(self):
        for rows, steps, error in ((None, None, InvalidRows), (["a"], [None], InvalidSteps)):
            walk = walk_steps(rows, steps)
            with self.assertRaises(error):
                next(walk)
        walk = walk_steps(["a"], [("move", 0, 0), ("remove", 1)])
        self.assertEqual(["a"], next(walk))
        with self.assertRaises(NotPossible):
            next(walk)


class CertificateTest(unittest.TestCase):
    def check(self, change):
        """Check by another way than the program's what staying and falls return."""
        some, lists, kept = staying(change), falls(change), change.kept()
        self.assertEqual(len(some), len(lists))
        self.assertEqual([index for index in kept if index in some], some)
        self.assertEqual(sorted(some), some)
        self.assertEqual(sorted(kept), sorted(index for one in lists for index in one))
        for one in lists:
            self.assertEqual([index for index in kept if index in one], one)
            self.assertEqual(sorted(one, reverse=True), one)
            self.assertTrue(one)
        self.assertIs(True, is_certificate(change, some, lists))
        self.assertIs(True, is_certificate(lists=tuple(map(tuple, lists)), some=tuple(some), change=change))
        self.assertEqual(len(change.gone()) + len(change.came()) + len(kept) - len(lists), len(change))

    def test_all_small_changes(self):
        for order in all_permutations(6):
            self.check(Change(len(order), order))
            self.assertEqual(longest(order), len(staying(Change(len(order), order))))

    def test_changes_with_rows_that_go_and_come(self):
        for after in itertools.permutations([0, 2, 3, "x", HEADER]):
            self.check(Change(5, after))
        self.check(Change(3, []))
        self.check(Change(0, ["x"]))

    def test_great_changes(self):
        chooser = random.Random(52)
        for _ in range(100):
            kept = chooser.sample(range(80), chooser.choice((10, 40, 79, 80)))
            self.check(Change(80, kept + rows_of(80 - len(kept))))
        for after in (list(range(80)), list(range(79, -1, -1)), [at ^ 1 for at in range(80)]):
            self.check(Change(80, after))

    def test_each_call_returns_new_lists(self):
        change = Change(4, [3, 1, 2, 0])
        for method in (staying, falls):
            found, expected = method(change), tuple(method(change=change))
            found.clear()
            self.assertEqual(expected, tuple(method(change)))
        falls(change)[0].clear()
        self.check(change)

    def test_other_values_are_no_changes(self):
        for value in any_values():
            if not isinstance(value, Change):
                assert_raises(self, InvalidChange, "value", value, staying, value)
                assert_raises(self, InvalidChange, "value", value, falls, value)
                assert_raises(self, InvalidChange, "value", value, is_certificate, value, None, None)
                assert_raises(self, InvalidChange, "value", value, is_steps, value, None)

    def test_named_cases(self):
        change = Change(6, ["x", 4, 1, HEADER, 5, 0])
        for some, lists, expected in (
            ([4, 5], [[4, 1, 0], [5]], True),
            ([1, 5], [[4, 1, 0], [5]], True),
            ([1, 5], [[5], [4, 1, 0]], True),
            ((1, 5), ((4, 1), (5, 0)), True),
            ([4, 5], [(4, 1), [5, 0]], True),
            ([5, 4], [[4, 1, 0], [5]], False),
            ([5, 1], [[4, 1, 0], [5]], False),
            ([0, 5], [[4, 1, 0], [5]], False),
            ([0, 1], [[4, 1, 0], [5]], False),
            ([4, 4], [[4, 1, 0], [5]], False),
            ([4, 1], [[4, 1, 0], [5]], False),
            ([2, 5], [[4, 1, 0], [5]], False),
            ([4], [[4, 1, 0], [5]], False),
            ([4, 5], [[4, 1, 0, 5]], False),
            ([4], [[4, 1, 0, 5]], False),
            ([4, 5], [[4, 1, 0], [5], []], False),
            ([4], [[4, 1, 0]], False),
            ([4, 5], [[4, 1, 0], [5, 0]], False),
            ([4, 5], [[4, 1, 0], [5, 4]], False),
            ([4, 5], [[4, 1], [5]], False),
            ([4, 5], [[4, 0], [5, 1]], False),
            ([4, 5], [[4, 5], [1, 0]], False),
            ([4, 5], [[4], [1, 5, 0]], False),
            ([4, 5], [[4, 1, 5, 0], []], False),
            ([4, 5], [[4, 1, 0, 2], [5]], False),
            ([4, 5], [[4, 1, 0, 0], [5]], False),
            ([4, 5], [[0, 1, 4], [5]], False),
            ([4, 5], [[1, 4, 0], [5]], False),
            ([4, 5], [[4, 1, 0], [5, 3]], False),
            ([4, 5], [[4, True, 0], [5]], False),
            ([4, 5], [[4, 1, False], [5]], False),
            ([True, 5], [[4, 1, 0], [5]], False),
            ([4, "x"], [[4, 1, 0], [5]], False),
            ([4, 5], [[4, 1, 0], 5], False),
            ([4, 5], [[4, 1, 0], "x"], False),
            ([], [], False),
        ):
            self.assertIs(expected, is_certificate(change, some, lists), (some, lists))

    def test_any_values(self):
        change = Change(4, [3, 1])
        for value in any_values():
            is_one = value.__class__ is int and value == 1
            self.assertIs(False, is_certificate(change, value, [[3, 1]]), value)
            self.assertIs(is_one, is_certificate(change, [value], [[3, 1]]), value)
            self.assertIs(False, is_certificate(change, [3], value), value)
            self.assertIs(False, is_certificate(change, [3], [value]), value)
            self.assertIs(is_one, is_certificate(change, [3], [[3, value]]), value)

    def test_without_rows_that_stay(self):
        for change in (Change(0, []), Change(3, ["x", "y"])):
            self.assertIs(True, is_certificate(change, [], []))
            self.assertIs(True, is_certificate(change, (), ()))
            for some, lists in (([], [[]]), ([0], [[0]]), ([], None), (None, []), ([], {}), ("", [])):
                self.assertIs(False, is_certificate(change, some, lists))


class IsStepsTest(unittest.TestCase):
    def test_the_steps_of_any_change(self):
        chooser = random.Random(54)
        for _ in range(60):
            kept = chooser.sample(range(80), chooser.choice((0, 10, 40, 79, 80)))
            change = Change(80, kept + rows_of(80 - len(kept)))
            for steps in (change.steps(), tuple(change)):
                self.assertIs(True, is_steps(change, steps))
                self.assertIs(True, is_steps(change, steps, fewest=False))
                self.assertIs(not steps, is_steps(change, steps[:-1]))
                self.assertIs(not steps, is_steps(change, steps[1:], fewest=False))

    def test_too_many_steps(self):
        change = Change(3, [2, 0, "x"])
        steps = [("remove", 1), ("move", 1, 0), ("insert", 2, "x")]
        self.assertIs(True, is_steps(change, steps))
        for more in ([("move", 1, 1)], [("move", 0, 1), ("move", 1, 0)], [("insert", 0, "y"), ("remove", 0)]):
            for at in range(1, 4):
                longer = steps[:at] + more + steps[at:]
                self.assertIs(False, is_steps(change, longer))
                self.assertIs(False, is_steps(change, longer, fewest=True))
                self.assertIs(True, is_steps(change, longer, fewest=False))
        filled = steps + [("move", 0, 0)] * 297
        self.assertIs(True, is_steps(fewest=False, steps=filled, change=change))
        self.assertIs(False, is_steps(change, filled + [("move", 0, 0)], fewest=False))

    def test_steps_that_lead_elsewhere(self):
        change = Change(3, [2, 0, "x"])
        for steps in (
            [("remove", 1), ("move", 1, 0), ("insert", 2, "y")],
            [("remove", 1), ("move", 1, 0), ("insert", 1, "x")],
            [("remove", 0), ("move", 1, 0), ("insert", 2, "x")],
            [("remove", 1), ("move", 1, 1), ("insert", 2, "x")],
            [("remove", 1), ("insert", 2, "x")],
            [],
        ):
            self.assertIs(False, is_steps(change, steps))
            self.assertIs(False, is_steps(change, steps, fewest=False))

    def test_other_fewest_steps(self):
        change = Change(3, [2, 0, "x"])
        for steps, expected in (
            ([("insert", 3, "x"), ("move", 2, 0), ("remove", 2)], True),
            ([("move", 0, 2), ("remove", 0), ("insert", 2, "x")], True),
            ([("move", 2, 0), ("insert", 1, "x"), ("remove", 3)], False),
        ):
            self.assertIs(expected, is_steps(change, steps))

    def test_impossible_steps(self):
        change = Change(2, [0])
        for steps in (
            [("remove", 2)],
            [("remove", 1), ("remove", 1)],
            [("remove", 1), ("move", 0, 1)],
            [("remove", 1), ("insert", 2, "x")],
        ):
            self.assertIs(False, is_steps(change, steps))
            self.assertIs(False, is_steps(change, steps, fewest=False))
        steps = [("insert", 0, "x"), ("insert", 0, "x"), ("remove", 0), ("remove", 0), ("remove", 1)]
        self.assertIs(False, is_steps(change, steps, fewest=False))
        self.assertIs(False, is_steps(Change.same(80), [("insert", 0, "x"), ("remove", 0)], fewest=False))
        self.assertIs(True, is_steps(Change.same(79), [("insert", 0, "x"), ("remove", 0)], fewest=False))

    def test_a_row_that_comes_is_none_that_went(self):
        change = Change.between(["a", "b"], ["b", "a"])
        self.assertIs(False, is_steps(change, [("remove", 0), ("insert", 1, "a")], fewest=False))
        self.assertIs(True, is_steps(Change(2, [1, "a"]), [("remove", 0), ("insert", 1, "a")]))
        self.assertIs(True, is_steps(Change(1, ["a", 0]), [("insert", 1, "a"), ("move", 0, 1)], fewest=False))

    def test_a_row_that_is_inserted_twice(self):
        steps = [("insert", 0, "x"), ("remove", 0), ("insert", 1, "x")]
        self.assertIs(True, is_steps(Change(1, [0, "x"]), steps, fewest=False))
        self.assertIs(False, is_steps(Change(1, [0, "x"]), steps))


if __name__ == "__main__":
    unittest.main()
