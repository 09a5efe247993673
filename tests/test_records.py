"""[61] to [64]: lists of records that never change."""

import itertools
import random
import unittest

from listviews import records as module
from listviews.errors import InvalidInteger
from listviews.errors import InvalidName
from listviews.errors import InvalidRecords
from listviews.errors import InvalidValue
from listviews.errors import KeyTaken
from listviews.errors import TooMany
from listviews.errors import UnknownKey
from listviews.records import Records
from listviews.records import differing
from listviews.values import is_integer
from listviews.values import is_name
from listviews.values import is_value

from samples import any_values
from samples import assert_raises

NAMES = [one + other for one in "abcdef" for other in "abcdefghij"]


def pairs_of(count):
    """So many tuples (key, value) with different keys and values."""
    return [(name, {"at": at, "size": -at}) for at, name in enumerate(NAMES[:count])]


def some():
    return Records([("ann", {"age": 7}), ("bo", {"age": 9, "size": 1}), ("cy", {"age": 7})])


class MakingTest(unittest.TestCase):
    def test_all_is_defined_in_this_file_and_class(self):
        for name in ("Records", "differing"):
            self.assertEqual("listviews.records", getattr(module, name).__module__)
        names = "names pairs place inserted removed moved replaced extended"
        for name in names.split() + ["__getitem__", "__len__", "__contains__", "__iter__", "__eq__"]:
            self.assertIn(name, vars(Records))

    def test_records_are_as_passed(self):
        for count in (0, 1, 2, 39, 40):
            for pairs in (pairs_of(count), tuple(pairs_of(count))):
                records = Records(pairs=pairs)
                self.assertEqual(pairs_of(count), records.pairs())
                self.assertEqual(NAMES[:count], records.names())
        self.assertEqual([], Records().pairs())
        self.assertEqual(["b", "a"], Records([("b", {"x": 1}), ("a", {"x": 1})]).names())

    def test_pairs_must_be_a_list(self):
        for value in [*any_values(), {"ann": {"age": 1}}, "ann", iter([]), some()]:
            if not isinstance(value, (list, tuple)):
                assert_raises(self, InvalidRecords, "value", value, Records, value)

    def test_forty_records_are_allowed_and_forty_one_are_not(self):
        self.assertEqual(40, len(Records(pairs_of(40))))
        for value in (pairs_of(41), tuple(pairs_of(50)), [None] * 41, [("a", {"x": 1})] * 41):
            assert_raises(self, InvalidRecords, "value", value, Records, value)

    def check_item(self, error, passed, item, field="value"):
        """Check that an item is refused at any place, ahead of all that is wrong behind it."""
        good = [("ann", {"age": 1}), ("bo", {"age": 1})]
        for pairs in ([item], [*good, item], (*good, item, None, ("A", {}))):
            assert_raises(self, error, field, passed, Records, pairs)
        assert_raises(self, error, field, passed, Records([("zoe", {"age": 1})]).extended, [*good, item, None])

    def test_items_must_be_tuples_of_two(self):
        value = {"age": 1}
        items = [["eve", value], ("eve",), ("eve", value, value), (), "eve", {"eve": value}, None, ("eve", value, None)]
        for item in items + [value for value in any_values() if not isinstance(value, tuple) or len(value) != 2]:
            self.check_item(InvalidRecords, item, item)

    def test_keys_must_be_names(self):
        for value in any_values():
            if not is_name(value):
                self.check_item(InvalidName, value, (value, {"age": 1}))
                self.check_item(InvalidName, value, (value, None))

    def test_values_must_be_values(self):
        values = [{"age": True}, {"age": 1000}, {}, {"A": 1}, {name: 1 for name in "abcdefg"}]
        for value in [value for value in any_values() if not is_value(value)] + values:
            self.check_item(InvalidValue, value, ("eve", value))
            self.check_item(InvalidValue, value, ("ann", value))

    def test_keys_must_differ(self):
        for pairs in ([("a", {"x": 1}), ("a", {"x": 1})], [("a", {"x": 1}), ("b", {"x": 1}), ("a", {"x": 2}), None]):
            assert_raises(self, KeyTaken, "key", "a", Records, pairs)
        key, again = "".join(["a", "nn"]), "".join(["an", "n"])
        assert_raises(self, KeyTaken, "key", again, Records, [("a", {"x": 1}), (key, {"x": 1}), (again, {"x": 1})])


class LookingTest(unittest.TestCase):
    def test_values_and_places(self):
        records = some()
        self.assertEqual([{"age": 7}, {"age": 9, "size": 1}, {"age": 7}], [records[key] for key in ("ann", "bo", "cy")])
        self.assertEqual([0, 1, 2], [records.place("ann"), records.place(key="bo"), records.place("cy")])
        self.assertEqual(list(range(40)), [Records(pairs_of(40)).place(name) for name in NAMES[:40]])

    def test_unknown_keys(self):
        for value in [*any_values(), "an", "ANN", "", 0, 2, ["ann"], ("ann", {"age": 7}), {"ann": 1}, slice(0, 1)]:
            if value != "ann":
                assert_raises(self, UnknownKey, "key", value, lambda: some()[value])
                assert_raises(self, UnknownKey, "key", value, some().place, value)
                assert_raises(self, UnknownKey, "key", value, some().removed, value)
                self.assertIs(False, value in some())
        for value in any_values():
            assert_raises(self, UnknownKey, "key", value, lambda: Records()[value])
            self.assertIs(False, value in Records())

    def test_sizes_and_iteration(self):
        self.assertEqual([0, 3, 40], [len(Records()), len(some()), len(Records(pairs_of(40)))])
        self.assertEqual(["ann", "bo", "cy"], list(some()))
        self.assertEqual(["ann", "bo", "cy"], [key for key in some()])
        self.assertEqual([True, True, True, False], [key in some() for key in ("ann", "bo", "cy", "dan")])


class EqualityTest(unittest.TestCase):
    def test_keys_order_and_values(self):
        found = [[], pairs_of(1), pairs_of(2), pairs_of(2)[::-1], pairs_of(3), pairs_of(2)[1:]]
        found += [[("aa", {"at": 0})], [("aa", {"at": 1})], [("ab", {"at": 0})], [("aa", {"at": 0, "b": 0})]]
        for one, other in itertools.product(range(len(found)), repeat=2):
            self.assertIs(one == other, Records(found[one]) == Records(tuple(found[other])))
            self.assertIs(one != other, Records(found[one]) != Records(found[other]))

    def test_the_order_of_fields_makes_no_difference(self):
        self.assertEqual(Records([("a", {"x": 1, "y": 2})]), Records([("a", {"y": 2, "x": 1})]))

    def test_other_values_are_not_equal(self):
        for value in [*any_values(), some().pairs(), some().names(), dict(some().pairs())]:
            if not isinstance(value, Records):
                self.assertIs(False, some() == value)
                self.assertIs(False, value == some())
                self.assertIs(False, Records() == value)


class CopiesTest(unittest.TestCase):
    def test_what_was_passed_may_be_modified(self):
        value, more = {"x": 1}, {"x": 2}
        pairs = [("a", value)]
        records = Records(pairs)
        made = [records, records.inserted("b", more), records.replaced("a", more), records.extended([("b", more)])]
        value["x"] = more["x"] = 7
        value["y"] = 1
        pairs.append(("c", {"x": 1}))
        first, second = ("a", {"x": 1}), ("b", {"x": 2})
        self.assertEqual([[first], [first, second], [("a", {"x": 2})], [first, second]], [one.pairs() for one in made])

    def test_nothing_that_is_passed_is_modified(self):
        pairs, value = pairs_of(3), {"x": 1}
        records = Records(pairs)
        records.inserted("zoe", value, index=0), records.replaced("aa", value), records.extended([("zoe", value)])
        records.moved("aa", 2), records.removed("aa")
        self.assertEqual((pairs_of(3), {"x": 1}), (pairs, value))
        self.assertEqual(pairs_of(3), records.pairs())

    def test_what_is_handed_out_may_be_modified(self):
        records = some()
        made = [records, records.moved("ann", 1), records.removed("cy"), records.extended([])]
        made.append(records.inserted("dan", {"age": 1}))
        expected = [one.pairs() for one in made]
        for one in made:
            pairs = one.pairs()
            for _, value in pairs:
                value["age"] = 0
            pairs.reverse()
            one.names().clear()
            one["ann"].clear()
            one["bo"]["age"] = 5
        self.assertEqual(expected, [one.pairs() for one in made])
        self.assertIsNot(records["ann"], records["ann"])
        self.assertIsNot(records.pairs()[0][1], records.pairs()[0][1])
        self.assertIsInstance(repr(records), str)

    def test_values_that_are_shared_are_copied_apart(self):
        value = {"x": 1}
        pairs = Records([("a", value), ("b", value)]).pairs()
        pairs[0][1]["x"] = 2
        self.assertEqual({"x": 1}, pairs[1][1])
        self.assertEqual({"x": 1}, value)


class InsertedTest(unittest.TestCase):
    def test_at_each_index(self):
        for index in (0, 1, 2, 3, None):
            expected = pairs_of(3)
            expected.insert(3 if index is None else index, ("zoe", {"x": 1}))
            records = Records(pairs_of(3))
            self.assertEqual(expected, records.inserted("zoe", {"x": 1}, index=index).pairs())
            self.assertEqual(expected, records.inserted(index=index, value={"x": 1}, key="zoe").pairs())
            self.assertEqual(pairs_of(3), records.pairs())
        self.assertEqual([("a", {"x": 1})], Records().inserted("a", {"x": 1}).pairs())
        self.assertEqual([("a", {"x": 1})], Records().inserted("a", {"x": 1}, index=0).pairs())
        self.assertEqual(40, len(Records(pairs_of(39)).inserted("zoe", {"x": 1}, index=39)))
        with self.assertRaises(TypeError):
            Records().inserted("a", {"x": 1}, 0)

    def test_wrong_arguments_in_their_order(self):
        full = Records(pairs_of(40))
        for value in any_values():
            if not is_name(value):
                assert_raises(self, InvalidName, "value", value, full.inserted, value, None, index=99)
            if not is_value(value):
                assert_raises(self, InvalidValue, "value", value, full.inserted, "aa", value, index=99)
            if not is_integer(value, 0, 3) and value is not None:
                assert_raises(self, InvalidInteger, "value", value, some().inserted, "ann", {"x": 1}, index=value)
        for value in (-1, 4, 41, True, False, "0", 10**29):
            assert_raises(self, InvalidInteger, "value", value, some().inserted, "dan", {"x": 1}, index=value)
        for value in (-1, 41):
            assert_raises(self, InvalidInteger, "value", value, full.inserted, "aa", {"x": 1}, index=value)
        for value in (1, True, False, -1):
            assert_raises(self, InvalidInteger, "value", value, Records().inserted, "aa", {"x": 1}, index=value)

    def test_key_taken_and_too_many(self):
        full, key = Records(pairs_of(40)), "".join(["a", "a"])
        assert_raises(self, KeyTaken, "key", key, full.inserted, key, {"x": 1}, index=40)
        assert_raises(self, KeyTaken, "key", key, Records(pairs_of(1)).inserted, key, {"x": 1})
        for index in (None, 0, 40):
            assert_raises(self, TooMany, "count", 41, full.inserted, "zoe", {"x": 1}, index=index)


class RemovedTest(unittest.TestCase):
    def test_each_record(self):
        for at in range(40):
            records = Records(pairs_of(40))
            self.assertEqual(pairs_of(40)[:at] + pairs_of(40)[at + 1 :], records.removed(key=NAMES[at]).pairs())
            self.assertEqual(40, len(records))
        self.assertEqual(Records(), Records(pairs_of(1)).removed("aa"))


class MovedTest(unittest.TestCase):
    def test_each_record_to_each_index(self):
        for at, index in itertools.product(range(4), repeat=2):
            expected = pairs_of(4)
            expected.insert(index, expected.pop(at))
            records = Records(pairs_of(4))
            self.assertEqual(expected, records.moved(index=index, key=NAMES[at]).pairs())
            self.assertEqual(pairs_of(4), records.pairs())
        self.assertEqual(39, Records(pairs_of(40)).moved("aa", 39).place("aa"))

    def test_wrong_arguments_in_their_order(self):
        for value in any_values():
            if not is_integer(value, 0, 2):
                assert_raises(self, InvalidInteger, "value", value, some().moved, "ann", value)
                assert_raises(self, InvalidInteger, "value", value, some().moved, None, value)
            if value != "ann":
                assert_raises(self, UnknownKey, "key", value, some().moved, value, 2)
            assert_raises(self, InvalidInteger, "value", value, Records().moved, "ann", value)
        for value in (-1, 3, True, False):
            assert_raises(self, InvalidInteger, "value", value, some().moved, "ann", value)
        assert_raises(self, InvalidInteger, "value", 40, Records(pairs_of(40)).moved, "aa", 40)
        assert_raises(self, InvalidInteger, "value", 0, Records().moved, "ann", 0)


class ReplacedTest(unittest.TestCase):
    def test_each_record(self):
        for at in range(40):
            expected = pairs_of(40)
            expected[at] = (NAMES[at], {"new": 1})
            records = Records(pairs_of(40))
            self.assertEqual(expected, records.replaced(value={"new": 1}, key=NAMES[at]).pairs())
            self.assertEqual(pairs_of(40), records.pairs())

    def test_wrong_arguments_in_their_order(self):
        for value in any_values():
            if not is_value(value):
                assert_raises(self, InvalidValue, "value", value, some().replaced, "ann", value)
                assert_raises(self, InvalidValue, "value", value, some().replaced, None, value)
            if value != "ann":
                assert_raises(self, UnknownKey, "key", value, some().replaced, value, {"x": 1})
        for value in ({"age": True}, {"age": 1000}, {}):
            assert_raises(self, InvalidValue, "value", value, some().replaced, "ann", value)


class ExtendedTest(unittest.TestCase):
    def test_records_come_behind(self):
        for at in (0, 1, 2, 39, 40):
            first, second = pairs_of(40)[:at], pairs_of(40)[at:]
            records = Records(first)
            for pairs in (second, tuple(second)):
                self.assertEqual(pairs_of(40), records.extended(pairs=pairs).pairs())
                self.assertEqual(first, records.pairs())

    def test_pairs_must_be_a_list_of_at_most_forty(self):
        for value in [*any_values(), some()]:
            if not isinstance(value, (list, tuple)):
                assert_raises(self, InvalidRecords, "value", value, some().extended, value)
        for value in (pairs_of(41), [None] * 41, tuple(pairs_of(50))):
            assert_raises(self, InvalidRecords, "value", value, Records().extended, value)
            assert_raises(self, InvalidRecords, "value", value, some().extended, value)

    def test_keys_must_differ_from_all(self):
        key, late = "".join(["b", "o"]), "".join(["d", "an"])
        assert_raises(self, KeyTaken, "key", key, some().extended, [("dan", {"x": 1}), (key, {"x": 1}), None])
        assert_raises(self, KeyTaken, "key", late, some().extended, [("dan", {"x": 1}), (late, {"x": 1}), None])
        passed = [("dan", {"x": 1}), (late, {"x": 1000}), None]
        assert_raises(self, InvalidValue, "value", passed[1][1], some().extended, passed)

    def test_at_most_forty_together(self):
        for first, second, count in ((40, 1, 41), (1, 40, 41), (20, 21, 41), (40, 10, 50)):
            pairs = pairs_of(count)
            assert_raises(self, TooMany, "count", count, Records(pairs[:first]).extended, pairs[first:])
        pairs = [(name, {"x": 1}) for name in NAMES[20:60]]
        assert_raises(self, TooMany, "count", 60, Records(pairs_of(20)).extended, pairs)
        full = Records(pairs_of(39) + [("at", {"x": 1})])
        assert_raises(self, KeyTaken, "key", "at", full.extended, [("zz", {"x": 1}), ("at", {"x": 1})])
        assert_raises(self, InvalidRecords, "value", 5, full.extended, [("zz", {"x": 1}), 5])


class HistoryTest(unittest.TestCase):
    def test_many_changes_against_a_plain_list(self):
        chooser = random.Random(63)
        records, pairs = Records(), []
        for _ in range(500):
            records, pairs = self.step(chooser, records, pairs)
            self.assertEqual(pairs, records.pairs())
            self.assertEqual([key for key, _ in pairs], list(records))
            self.assertEqual(Records(pairs), records)

    def step(self, chooser, records, pairs):
        """The records and the list after any one method."""
        free = [name for name in NAMES[:40] if name not in records]
        value, pairs = {"x": chooser.randint(-999, 999)}, list(pairs)
        kind = chooser.choice(["inserted"] * 2 + ["removed", "moved", "replaced", "extended"])
        if kind == "extended" or not pairs:
            more = [(name, value) for name in chooser.sample(free, min(2, len(free)))]
            return records.extended(more), pairs + more
        if kind == "inserted" and free:
            index = chooser.randint(0, len(pairs))
            pairs.insert(index, (free[-1], value))
            return records.inserted(free[-1], value, index=index), pairs
        at = chooser.randrange(len(pairs))
        key, old = pairs.pop(at)
        if kind == "removed":
            return records.removed(key), pairs
        index = chooser.randint(0, len(pairs)) if kind == "moved" else at
        pairs.insert(index, (key, old if kind == "moved" else value))
        return records.moved(key, index) if kind == "moved" else records.replaced(key, value), pairs


class DifferingTest(unittest.TestCase):
    def test_keys_that_both_have(self):
        one = Records([("a", {"x": 1}), ("b", {"x": 2}), ("c", {"x": 3}), ("d", {"x": 4, "y": 0})])
        for pairs, expected in (
            ([], []),
            (one.pairs(), []),
            (one.pairs()[::-1], []),
            ([("d", {"x": 4}), ("e", {"x": 1}), ("b", {"x": 3}), ("a", {"x": 1}), ("c", {"z": 3})], ["d", "b", "c"]),
            ([("d", {"y": 0, "x": 4}), ("c", {"x": 1})], ["c"]),
            ([("e", {"x": 1})], []),
        ):
            self.assertEqual(expected, differing(one, Records(pairs)))
            self.assertEqual(sorted(expected), sorted(differing(one=Records(pairs), other=one)))
        self.assertEqual(["b", "c", "d"], differing(Records([("d", {"x": 4}), ("b", {"x": 3}), ("c", {"z": 3})]), one))

    def test_other_values_are_told(self):
        for value in [*any_values(), some().pairs()]:
            if not isinstance(value, Records):
                assert_raises(self, InvalidRecords, "value", value, differing, value, some())
                assert_raises(self, InvalidRecords, "value", value, differing, some(), value)
                assert_raises(self, InvalidRecords, "value", value, differing, value, [])


if __name__ == "__main__":
    unittest.main()
