"""[41] to [45]: changes, what they lead to, how they are joined, and their steps."""

import itertools
import random
import unittest

from listviews import changes
from listviews.changes import Change
from listviews.errors import InvalidChange
from listviews.errors import InvalidInteger
from listviews.errors import InvalidRows
from listviews.errors import KeyTaken
from listviews.errors import Mismatch
from listviews.orders import By
from listviews.values import is_integer
from listviews.values import is_row
from listviews.values import is_rows

from samples import any_values
from samples import assert_raises
from samples import other_rows_of
from samples import rows_of

HEADER = ("group", (1, -2))
SAME_HEADER = tuple(["group", (1, -2)])
NEW_ROWS = [one + other for one in "wxyz" for other in "abcdefghijklmnopqrstuvwxyz"]


def performed(rows, steps):
    """What steps make of rows, by another way than the program's."""
    now = list(rows)
    for kind, index, *rest in steps:
        if kind == "insert":
            now.insert(index, rest[0])
            continue
        row = now.pop(index)
        if kind == "move":
            now.insert(rest[0], row)
    return now


def all_changes(before, coming):
    """All changes of so many rows by which any of these rows come."""
    items = [*range(before), *coming]
    orders = [order for count in range(len(items) + 1) for order in itertools.permutations(items, count)]
    return [Change(before, order) for order in orders]


def any_change(chooser, before, source):
    """Any change of so many rows by which some rows of the source come."""
    kept = chooser.sample(range(before), chooser.randint(0, before))
    after = kept + chooser.sample(source, chooser.randint(0, 80 - len(kept)))
    if chooser.random() < 0.7:
        chooser.shuffle(after)
    return Change(before, after)


def neighbors(state, coming):
    """The lists that one step makes of a list of old indices and rows that come."""
    others = [state[:at] + state[at + 1 :] for at in range(len(state))]
    found = list(others)
    for at, other in enumerate(others):
        found += [other[:to] + (state[at],) + other[to:] for to in range(len(other) + 1)]
    for row in coming:
        if row not in state:
            found += [state[:to] + (row,) + state[to:] for to in range(len(state) + 1)]
    return found


def distances(before, coming):
    """The least number of steps to each list, found by trying all steps."""
    found = {tuple(range(before)): 0}
    states = list(found)
    for state in states:
        for other in neighbors(state, coming):
            if other not in found:
                found[other] = found[state] + 1
                states.append(other)
    return found


class MakingTest(unittest.TestCase):
    def test_all_is_defined_in_this_file_and_class(self):
        self.assertEqual("listviews.changes", changes.Change.__module__)
        names = "before total after kept gone came steps __call__ __add__ __eq__ __bool__ __len__ __iter__ back"
        for name in names.split() + ["same", "between"]:
            self.assertIn(name, vars(Change))
        for name in ("same", "between"):
            self.assertIsInstance(vars(Change)[name], staticmethod)

    def test_what_it_states(self):
        change = Change(5, [4, "zoe", 0, HEADER, 2])
        self.assertEqual((5, 5), (change.before, change.total))
        self.assertEqual([4, "zoe", 0, HEADER, 2], change.after())
        self.assertEqual([4, 0, 2], change.kept())
        self.assertEqual([1, 3], change.gone())
        self.assertEqual(["zoe", HEADER], change.came())
        change = Change(after=(), before=2)
        self.assertEqual((2, 0, [], [], [0, 1], []), self.parts(change))
        self.assertEqual((0, 0, [], [], [], []), self.parts(Change(0, [])))
        self.assertEqual((0, 1, ["a"], [], [], ["a"]), self.parts(Change(0, ("a",))))

    def parts(self, change):
        return (change.before, change.total, change.after(), change.kept(), change.gone(), change.came())

    def test_before_must_be_an_integer(self):
        for value in any_values():
            if not is_integer(value, 0, 80):
                assert_raises(self, InvalidInteger, "value", value, Change, value, [])
        for value in (-1, 81, True, False):
            assert_raises(self, InvalidInteger, "value", value, Change, value, None)
        for value in (0, 1, 79, 80):
            self.assertEqual(value, Change(value, []).before)

    def test_after_must_be_a_list(self):
        for value in any_values():
            if not isinstance(value, (list, tuple)):
                assert_raises(self, InvalidChange, "value", value, Change, 3, value)
        for value in ("", "ann", {0: "a"}, {}, range(2), None, iter([0])):
            assert_raises(self, InvalidChange, "value", value, Change, 3, value)

    def test_eighty_items_are_allowed_and_eighty_one_are_not(self):
        self.assertEqual(80, Change(80, list(range(80))).total)
        self.assertEqual(80, Change(0, rows_of(80)).total)
        self.assertEqual(80, Change(2, [1, *rows_of(79)]).total)
        for after in (rows_of(81), [0, *rows_of(80)], tuple(rows_of(90)), [None] * 81, [0] * 110):
            assert_raises(self, InvalidChange, "value", after, Change, 80, after)

    def test_items_must_be_old_indices_or_rows(self):
        for value in any_values():
            if not is_integer(value, 0, 2) and not is_row(value):
                assert_raises(self, InvalidChange, "value", value, Change, 3, [value])
                assert_raises(self, InvalidChange, "value", value, Change, 3, (1, "zoe", value, "A", 1))
        for value in (3, -1, 80, True, False, "Zoe", ["group", (1,)], ("group", 1), ("group", ()), (0,), [0]):
            assert_raises(self, InvalidChange, "value", value, Change, 3, [2, value])
        assert_raises(self, InvalidChange, "value", 0, Change, 0, [0])
        self.assertEqual([79, 0], Change(80, [79, 0]).after())

    def test_no_item_occurs_twice(self):
        for items in ([1, 1], [0, "a", 0], ["a", 1, "a"], [HEADER, "a", SAME_HEADER], ["a", "b", "b", None]):
            repeated = items[-1] if items[-1] is not None else items[-2]
            assert_raises(self, InvalidChange, "value", repeated, Change, 3, items)
        self.assertIsNot(HEADER, SAME_HEADER)
        assert_raises(self, InvalidChange, "value", SAME_HEADER, Change, 0, [HEADER, SAME_HEADER])
        assert_raises(self, InvalidChange, "value", "B", Change, 0, ["a", "B", "a"])

    def test_lists_are_copied_in_and_out(self):
        after = [1, "a", 0]
        change = Change(2, after)
        after.append("b")
        self.assertEqual([1, "a", 0], change.after())
        for method in (change.after, change.kept, change.gone, change.came, change.steps):
            found, expected = method(), tuple(method())
            self.assertIs(list, found.__class__)
            found.append("x")
            found.reverse()
            self.assertEqual(expected, tuple(method()))
        self.assertEqual(2, len(change))

    def test_properties_cannot_be_set(self):
        for name in ("before", "total"):
            with self.assertRaises(AttributeError):
                setattr(Change(1, [0]), name, 2)
        self.assertIsInstance(repr(Change(1, [0])), str)


class CallTest(unittest.TestCase):
    def test_it_leads_rows_to_rows(self):
        change = Change(3, [2, "zoe", 0])
        self.assertEqual(["eve", "zoe", "ann"], change(["ann", "bob", "eve"]))
        self.assertEqual(["eve", "zoe", HEADER], change(rows=(HEADER, "bob", "eve")))
        self.assertEqual([], Change(2, [])(["a", "b"]))
        self.assertEqual([HEADER], Change(0, [HEADER])([]))
        self.assertEqual(rows_of(80)[::-1], Change(80, list(range(79, -1, -1)))(rows_of(80)))

    def test_it_returns_new_lists(self):
        rows = ["a", "b"]
        result = Change.same(2)(rows)
        result.append("c")
        self.assertEqual(["a", "b"], rows)
        self.assertEqual(["a", "b"], Change.same(2)(rows))

    def test_rows_must_be_a_list_of_rows(self):
        change = Change(2, [0, "a"])
        for call in (change, change.back):
            for value in any_values():
                if not is_rows(value):
                    assert_raises(self, InvalidRows, "value", value, call, value)
            for value in (["b", "b"], ["b", "B"], "bc", {"b": 1, "c": 2}, rows_of(81), [0, 1]):
                assert_raises(self, InvalidRows, "value", value, call, value)

    def test_the_number_of_rows_must_be_that_of_the_change(self):
        for rows in ([], ["b"], ["b", "c", "d"], ["a"], ["b", "c", "a"], rows_of(80)):
            change = Change(2, [0, "a"])
            assert_raises(self, Mismatch, "value", rows, change, rows)
            assert_raises(self, Mismatch, "value", rows, change.back, rows)

    def test_a_row_that_comes_must_not_stay(self):
        for change, rows, row in (
            (Change(2, ["a", 0]), ["a", "b"], "a"),
            (Change(2, [0, "a", 1]), ["b", "a"], "a"),
            (Change(3, ["x", 2, "b", "a", 0]), ("a", "c", "b"), "b"),
            (Change(2, [1, "a", SAME_HEADER]), ["a", HEADER], SAME_HEADER),
        ):
            assert_raises(self, KeyTaken, "key", row, change, rows)
            assert_raises(self, KeyTaken, "key", row, change.back, rows)

    def test_a_row_that_comes_may_equal_a_row_that_goes(self):
        self.assertEqual(["b", "a"], Change(2, [1, "a"])(["a", "b"]))
        self.assertEqual([HEADER], Change(1, [HEADER])([HEADER]))
        self.assertEqual(["b", "a"], Change(2, ["b", "a"])(["a", "b"]))


class JoiningTest(unittest.TestCase):
    def check(self, one, other):
        kept = [one.after()[index] for index in other.kept()]
        taken = [row for row in other.came() if row in kept]
        if taken:
            assert_raises(self, KeyTaken, "key", taken[0], lambda: one + other)
            return
        joined, rows = one + other, other_rows_of(one.before)
        self.assertIs(Change, joined.__class__)
        self.assertEqual((one.before, other.total), (joined.before, joined.total))
        self.assertEqual(other(one(rows)), joined(rows))
        self.assertEqual([item for item in kept if isinstance(item, int)], joined.kept())

    def test_small_changes_one_after_the_other(self):
        chooser = random.Random(43)
        firsts = [change for before in range(3) for change in all_changes(before, ["x", HEADER])]
        for one in firsts:
            for other in chooser.choices(all_changes(one.total, ["x", "y"]), k=20):
                self.check(one, other)

    def test_great_changes_one_after_the_other(self):
        chooser = random.Random(44)
        for _ in range(100):
            one = any_change(chooser, chooser.choice((0, 1, 40, 80)), rows_of(100))
            self.check(one, any_change(chooser, one.total, rows_of(100)))
            self.check(one, any_change(chooser, one.total, NEW_ROWS))

    def test_what_comes_and_what_goes(self):
        one = Change(2, [1, "x", "y"])
        self.assertEqual(["x", 1], (one + Change(3, [1, 0])).after())
        self.assertEqual([1], (one + Change(3, [0])).after())
        self.assertEqual(["y", "x"], (one + Change(3, [2, "x"])).after())
        self.assertEqual(["x"], (one + Change(3, ["x"])).after())
        self.assertEqual([], (one + Change(3, [])).after())

    def test_a_row_that_goes_and_comes_again_does_not_stay(self):
        one, other = Change.between(["a", "b"], ["b", "c"]), Change.between(["b", "c"], ["a", "b"])
        joined = one + other
        self.assertEqual((["a", 1], [0], ["a"]), (joined.after(), joined.gone(), joined.came()))
        self.assertEqual(["a", "b"], joined(["a", "b"]))

    def test_a_variable_gets_the_joined_change(self):
        one = change = Change(2, [1, 0])
        change += Change(2, ["x", 0])
        self.assertEqual([[1, 0], ["x", 1]], [one.after(), change.after()])

    def test_other_operands_are_told(self):
        for value in [*any_values(), Change, By("a"), [0], ["a", "b"]]:
            if not isinstance(value, Change):
                assert_raises(self, InvalidChange, "value", value, lambda: Change(2, [0]) + value)

    def test_the_numbers_of_rows_must_match(self):
        for other in (Change(0, []), Change(2, [0, 1]), Change(2, ["x", 0]), Change(80, [])):
            assert_raises(self, Mismatch, "value", other, lambda: Change(2, ["x"]) + other)

    def test_the_first_row_that_is_taken_is_told(self):
        one = Change(1, ["x", HEADER, "y", 0])
        for other, row in (
            (Change(4, ["x", 0]), "x"),
            (Change(4, [0, 1, SAME_HEADER, "x"]), SAME_HEADER),
            (Change(4, [3, "z", "y", 2, "x", 0]), "y"),
        ):
            assert_raises(self, KeyTaken, "key", row, lambda: one + other)
        self.assertEqual(["x", 0], (one + Change(4, ["x", 3])).after())


class StepsTest(unittest.TestCase):
    def check(self, change):
        steps = change.steps()
        self.assertEqual(change.after(), performed(range(change.before), steps))
        self.assertEqual(len(steps), len(change))
        self.assertEqual(steps, list(change))
        self.assertEqual(steps, [step for step in change])
        kinds = [step[0] for step in steps]
        self.assertEqual(kinds, sorted(kinds, key=["remove", "move", "insert"].index))
        removed = [step[1] for step in steps if step[0] == "remove"]
        self.assertEqual(change.gone()[::-1], removed)
        places = [step[1] for step in steps if step[0] == "insert"]
        self.assertEqual([at for at, item in enumerate(change.after()) if item in change.came()], places)
        self.assertEqual(change.came(), [step[2] for step in steps if step[0] == "insert"])
        self.assertTrue(all(step.__class__ is tuple for step in steps))
        self.assertTrue(all(is_integer(index, 0, 79) for step in steps for index in step[1:] if isinstance(index, int)))

    def test_no_fewer_steps_do(self):
        coming = ["x", HEADER]
        for before in range(5):
            least = distances(before, coming if before < 4 else coming[:1])
            for after, count in least.items():
                change = Change(before, after)
                self.assertEqual(count, len(change), change.after())
                self.check(change)

    def test_great_changes(self):
        chooser = random.Random(45)
        for _ in range(150):
            self.check(any_change(chooser, chooser.choice((0, 1, 5, 40, 79, 80)), rows_of(100)))

    def test_the_greatest_changes(self):
        chooser = random.Random(46)
        up, down, mixed = list(range(80)), list(range(79, -1, -1)), chooser.sample(range(80), 80)
        turned = up[40:] + up[:40]
        for after, count in (
            (up, 0),
            (down, 79),
            (up[1:] + [0], 1),
            ([79] + up[:79], 1),
            (turned, 40),
            (rows_of(80), 160),
        ):
            self.check(Change(80, after))
            self.assertEqual(count, len(Change(80, after)))
        for _ in range(100):
            self.check(Change(80, mixed))
            chooser.shuffle(mixed)

    def test_named_cases(self):
        for before, after, steps in (
            (0, [], []),
            (3, [0, 1, 2], []),
            (3, [], [("remove", 2), ("remove", 1), ("remove", 0)]),
            (0, ["a", HEADER], [("insert", 0, "a"), ("insert", 1, HEADER)]),
            (3, [1, 2, 0], [("move", 0, 2)]),
            (3, [2, 0, 1], [("move", 2, 0)]),
            (4, ["x", 0, "y", 3], [("remove", 2), ("remove", 1), ("insert", 0, "x"), ("insert", 2, "y")]),
            (4, ["x", 3, 1, 2], [("remove", 0), ("move", 2, 0), ("insert", 0, "x")]),
        ):
            self.assertEqual(steps, Change(before, after).steps())

    def test_bool(self):
        for before in range(4):
            for change in all_changes(before, ["x"]):
                self.assertIs(change.after() != list(range(before)), bool(change))
        self.assertIs(False, bool(Change(80, list(range(80)))))
        self.assertIs(True, bool(Change(80, list(range(79)))))


class EqualityTest(unittest.TestCase):
    def test_equal_just_if_both_are_equal(self):
        found = [(change.before, change.after()) for before in range(3) for change in all_changes(before, ["x"])]
        for one, other in itertools.product(found, repeat=2):
            self.assertIs(one == other, Change(*one) == Change(*other))
            self.assertIs(one != other, Change(*one) != Change(*other))
        self.assertEqual(Change(2, [0, HEADER]), Change(2, (0, SAME_HEADER)))
        self.assertNotEqual(Change(2, []), Change(1, []))

    def test_other_values_are_not_equal(self):
        for value in [*any_values(), (2, [0]), [0]]:
            if not isinstance(value, Change):
                self.assertIs(False, Change(2, [0]) == value)
                self.assertIs(False, value == Change(2, [0]))

    def test_changes_never_change(self):
        one = Change(2, [1, "x", 0])
        one(["a", "b"]), one + Change.same(3), one.back(["a", "b"]), list(one), len(one), bool(one), one == one
        self.assertEqual((2, [1, "x", 0], 2), (one.before, one.after(), len(one)))


class StaticTest(unittest.TestCase):
    def test_same(self):
        for count in (0, 1, 2, 79, 80):
            change = Change.same(count=count)
            self.assertEqual((count, list(range(count))), (change.before, change.after()))
            self.assertEqual(0, len(change))
        for value in any_values():
            if not is_integer(value, 0, 80):
                assert_raises(self, InvalidInteger, "value", value, Change.same, value)
        for value in (-1, 81, True, False):
            assert_raises(self, InvalidInteger, "value", value, Change.same, value)

    def test_between(self):
        for old, new, after in (
            ([], [], []),
            (["a", "b"], ["b", "c"], [1, "c"]),
            (("a", HEADER), (SAME_HEADER, "a"), [1, 0]),
            (["a"], [], []),
            ([], ["a", HEADER], ["a", HEADER]),
        ):
            change = Change.between(new=new, old=old)
            self.assertEqual((len(old), after), (change.before, change.after()))
            self.assertEqual(list(new), change(old))

    def test_between_any_rows(self):
        chooser = random.Random(47)
        for _ in range(60):
            old, new = [chooser.sample(rows_of(100), chooser.choice((0, 1, 40, 79, 80))) for _ in range(2)]
            change = Change.between(old, new)
            self.assertEqual(new, change(old))
            self.assertEqual([row for row in new if row in old], [old[index] for index in change.kept()])

    def test_between_needs_lists_of_rows(self):
        for value in any_values():
            if not is_rows(value):
                assert_raises(self, InvalidRows, "value", value, Change.between, value, ["a"])
                assert_raises(self, InvalidRows, "value", value, Change.between, ["a"], value)
                assert_raises(self, InvalidRows, "value", value, Change.between, value, None)
        for value in (["a", "a"], rows_of(81), "ab", [0]):
            assert_raises(self, InvalidRows, "value", value, Change.between, [], value)


class BackTest(unittest.TestCase):
    def check(self, change, rows):
        back = change.back(rows)
        after = change(rows)
        self.assertEqual((change.total, change.before), (back.before, back.total))
        self.assertEqual(list(rows), back(after))
        self.assertEqual({rows[index] for index in change.kept()}, {after[index] for index in back.kept()})
        self.assertEqual(len(change.kept()), len(back.kept()))
        self.assertEqual(change, back.back(after))
        self.assertEqual(change.kept() == sorted(change.kept()), back.kept() == sorted(back.kept()))

    def test_all_small_changes(self):
        for before in range(4):
            for change in all_changes(before, ["x", HEADER]):
                self.check(change, ["a", ("group", (7,)), "c"][:before])

    def test_great_changes(self):
        chooser = random.Random(48)
        for _ in range(60):
            change = any_change(chooser, chooser.choice((1, 40, 80)), rows_of(100))
            self.check(change, other_rows_of(change.before))

    def test_a_row_that_goes_and_comes(self):
        change = Change(2, ["b", 0])
        back = change.back(rows=["a", "b"])
        self.assertEqual((2, [1, "b"]), (back.before, back.after()))
        self.assertEqual(["a", "b"], back(["b", "a"]))


if __name__ == "__main__":
    unittest.main()
