"""[24]: records on which two conditions part."""

import itertools
import random
import unittest

from listviews.candidates import candidate_records
from listviews.conditions import Between
from listviews.conditions import Both
from listviews.conditions import Condition
from listviews.conditions import Either
from listviews.conditions import Leaf
from listviews.conditions import Named
from listviews.conditions import Not
from listviews.conditions import is_parting
from listviews.conditions import parting
from listviews.errors import InvalidCondition
from listviews.errors import TooMany
from listviews.values import is_name
from listviews.values import is_value

from samples import any_values
from samples import assert_raises

BOUNDS = (-999, -1, 0, 1, 2, 999)
# Each integer at which a leaf with such bounds begins or ends, and its neighbors.
NUMBERS = (-999, -998, -2, -1, 0, 1, 2, 3, 998, 999)


def joined(kind, parts):
    """Two to six conditions joined by a class, as flat as possible."""
    if len(parts) == 1:
        return parts[0]
    half = len(parts) // 2
    return kind(joined(kind, parts[:half]), joined(kind, parts[half:]))


def each_field(fields, low, high):
    return [Between(field, low=low, high=high) for field in fields]


def nested(chooser, depth, fields):
    """Any condition of at most this depth on these fields and three names."""
    kind = chooser.randrange(6 if depth > 1 else 2)
    if kind == 0:
        low, high = sorted(chooser.choice(BOUNDS) for _ in range(2))
        return Between(chooser.choice(fields), low=low, high=high)
    if kind == 1:
        return Named(*[chooser.choice("abc") for _ in range(chooser.randrange(3))])
    if kind in (2, 3):
        return Not(nested(chooser, depth - 1, fields))
    one, other = nested(chooser, depth - 1, fields), nested(chooser, depth - 1, fields)
    try:
        return Both(one, other) if kind == 4 else Either(one, other)
    except TooMany:
        return one


def are_alike(one, other, fields):
    """Tell by trying all records that can make a difference."""
    for numbers in itertools.product((None, *NUMBERS), repeat=len(fields)):
        value = {field: number for field, number in zip(fields, numbers) if number is not None}
        for key in "abcz":
            if one(key, value or {"zz": 0}) != other(key, value or {"zz": 0}):
                return False
    return True


class PartingTest(unittest.TestCase):
    def alike(self, one, other):
        self.assertIsNone(parting(one, other))
        self.assertIsNone(parting(other, one))

    def part(self, one, other):
        """Check that conditions part, and return the record on which they do."""
        for first, second in ((other, one), (one, other)):
            found = parting(first, second)
            self.assertIsInstance(found, tuple)
            key, value = found
            self.assertTrue(is_name(key) and is_value(value))
            self.assertNotEqual(first(key, value), second(key, value))
            self.assertIs(True, is_parting(first, second, found))
        return found

    def test_equal_conditions_are_alike(self):
        for text in ("a 1..2", "[]", "[ann bob]", "not [ann]", "(a 1..2 and (b 1..3 or not [c d]))"):
            self.alike(Condition.read(text), Condition.read(text))

    def test_conditions_that_hold_for_the_same_records_are_alike(self):
        a, b, c = Between("a", low=3), Between("b"), Named("ann", "bob")
        self.alike(a, ~~a)
        self.alike(a & b, b & a)
        self.alike(a | c, c | a)
        self.alike(~(a & c), ~a | ~c)
        self.alike(a & (b | c), a & b | a & c)
        self.alike(c, Named("bob") | Named("ann") | Named("bob"))
        self.alike(Named("ann", "ann"), Named("ann"))
        self.alike(Named(), a & ~a)
        self.alike(~Named(), b | ~b)
        self.alike(Named(), Named("ann") & Named("bob"))
        self.alike(Between("a"), Between("a", high=3) | Between("a", low=4))
        self.alike(Between("a", low=1, high=9) & Between("a", low=5, high=12), Between("a", low=5, high=9))
        self.alike(Between("a", high=0) & Between("a", low=1), Between("b", high=0) & Between("b", low=1))

    def test_conditions_that_part_at_one_integer(self):
        whole = Between("a")
        cases = [(Between("a", low=-998), -999), (Between("a", high=998), 999)]
        cases += [(Between("a", high=2) | Between("a", low=4), 3), (~Between("a", low=0, high=0) & whole, 0)]
        for other, number in cases:
            key, value = self.part(whole, other)
            self.assertEqual(number, value["a"])
        self.part(Between("a", low=1, high=1), Between("a", low=1, high=2))
        self.part(Between("a", low=999, high=999), Named())
        self.part(Between("a", low=-999, high=-999), Named())

    def test_conditions_that_part_at_values_without_a_field(self):
        key, value = self.part(~Between("a"), Named())
        self.assertNotIn("a", value)
        self.part(Between("a"), ~Named())
        self.part(~Between("a"), Between("b"))
        for fields in ("abcdef", "zyxwvu"):
            key, value = self.part(~joined(Either, each_field(fields, -999, 999)), Named())
            self.assertEqual([], [field for field in value if field in fields])

    def test_conditions_that_part_at_one_key(self):
        for one, other, name in ((Named("a", "b"), Named("b"), "a"), (Named("ann"), Named(), "ann")):
            key, value = self.part(one, other)
            self.assertEqual(name, key)
        key, value = self.part(Named(*"abcdefgh"), Named(*"hgfedcb"))
        self.assertEqual("a", key)
        self.alike(Named(*"abcdefgh"), Named(*"hgfedcba"))

    def test_conditions_that_part_at_keys_without_a_leaf(self):
        key, value = self.part(~Named(*"abcdefgh"), Named())
        self.assertNotIn(key, "abcdefgh")
        key, value = self.part(~Named(*"abcdefgh"), Named(*"ijklmnop"))
        self.assertNotIn(key, "abcdefghijklmnop")
        key, value = self.part(~Named(*"zyxwvuts"), Named(*"rqponmlk"))
        self.assertNotIn(key, "klmnopqrstuvwxyz")

    def test_a_name_of_a_key_is_no_field(self):
        self.part(Named("a"), Between("a"))

    def test_more_than_six_fields_together(self):
        one, other = (joined(Both, each_field(fields, 0, 5)) for fields in ("abcdef", "ghijkl"))
        self.part(one, other)
        self.alike(one, joined(Both, each_field("fedcba", 0, 5)))
        self.part(~one, ~other)
        some, others = (joined(Either, each_field(fields, 0, 5)) for fields in ("abcdef", "ghijkl"))
        self.part(some, others)
        self.part(one, some)
        self.part(one, others)
        self.part(some, ~others)
        self.alike(~some, joined(Both, [~leaf for leaf in each_field("abcdef", 0, 5)]))
        first = joined(Both, each_field("abc", 0, 0) + each_field("def", 1, 1))
        self.part(first, joined(Both, each_field("abcg", 0, 0)))

    def test_all_that_is_tried_are_records(self):
        bounds = [(field, low, low + 1) for field in "abcdefghijkl" for low in (-999, 998)]
        for groups in ([], [("a", "b"), tuple("bcdefghi")]):
            for bound in (bounds[::2], bounds[:12], []):
                found = list(candidate_records(bound, groups))
                self.assertTrue(found)
                for key, value in found:
                    self.assertTrue(is_name(key) and is_value(value))

    def test_six_fields_are_needed(self):
        one = joined(Both, each_field("abcdef", 7, 7))
        key, value = self.part(one, Named())
        self.assertEqual({field: 7 for field in "abcdef"}, value)
        five = joined(Both, each_field("abcde", 7, 7))
        self.part(one, five)
        key, value = self.part(one, joined(Both, each_field("abcde", 7, 7) + each_field("f", 8, 8)))
        self.assertEqual({"a": 7, "b": 7, "c": 7, "d": 7, "e": 7}, {field: value[field] for field in "abcde"})

    def test_the_greatest_conditions(self):
        one = joined(Both, each_field("abcdef", 0, 5))
        other = joined(Both, each_field("abcdef", 3, 9))
        self.part(one, other)
        self.part(~one, ~other)
        self.part(one, joined(Both, each_field("abcde", 0, 5) + each_field("f", 0, 4)))
        self.part(joined(Both, each_field("abcdef", 3, 5)), one)
        self.alike(one, joined(Both, each_field("fdbeca", 0, 5)))
        self.alike(~one, joined(Either, [~leaf for leaf in each_field("fdbeca", 0, 5)]))
        six = [Between("a", low=low, high=low + 10) for low in range(0, 60, 10)]
        self.alike(joined(Either, six), joined(Either, six[::-1]))
        self.alike(joined(Either, six), Between("a", low=0, high=60))
        self.part(joined(Either, six), Between("a", low=0, high=61))
        key, value = self.part(joined(Either, six[:2] + six[3:]), Between("a", low=0, high=60))
        self.assertIn(value["a"], range(21, 30))

    def test_deep_conditions(self):
        deep = [~~~~Between("a"), ~(Between("a") & (Named("b") | ~Named("c")))]
        self.assertEqual([5, 5], [one.depth() for one in deep])
        self.alike(deep[0], Between("a"))
        self.part(deep[0], deep[1])
        self.alike(deep[1], ~Between("a") | ~(Named("b") | ~Named("c")))

    def test_any_conditions_on_two_fields(self):
        self.check(random.Random(24), 500, "ab")

    def test_any_conditions_on_three_fields(self):
        self.check(random.Random(25), 60, "abc")

    def check(self, chooser, count, fields):
        told = {True: 0, False: 0}
        for _ in range(count):
            one, other = nested(chooser, 4, fields), nested(chooser, 4, fields)
            alike = are_alike(one, other, fields)
            told[alike] += 1
            if alike:
                self.alike(one, other)
            else:
                self.part(one, other)
            self.alike(one, ~~one if one.depth() < 4 else one)
        self.assertGreater(min(told.values()), 0)

    def test_each_call_returns_a_new_record(self):
        one, other = Between("a", low=3), Named("b")
        parting(one, other)[1].clear()
        self.part(one, other)

    def test_both_must_be_conditions(self):
        for value in any_values():
            if not isinstance(value, Condition):
                assert_raises(self, InvalidCondition, "value", value, parting, value, Named())
                assert_raises(self, InvalidCondition, "value", value, parting, Named(), value)
                assert_raises(self, InvalidCondition, "value", value, parting, value, [])
        assert_raises(self, InvalidCondition, "value", Leaf, parting, Named(), Leaf)

    def test_arguments_by_name(self):
        self.assertIsNone(parting(other=Named(), one=Named()))
        self.assertIs(True, is_parting(found=("a", {"a": 1}), other=Named(), one=Between("a")))


class IsPartingTest(unittest.TestCase):
    one = Between("age", low=18) & ~Named("bo")

    def test_records_on_which_just_one_holds(self):
        for other in (Named(), Named("bo")):
            self.assertIs(True, is_parting(self.one, other, ("ann", {"age": 18})))
            self.assertIs(True, is_parting(other, self.one, ("ann", {"age": 18, "size": 3})))
        self.assertIs(True, is_parting(self.one, Named("bo"), ("bo", {"age": 18})))

    def test_records_on_which_both_or_neither_holds(self):
        self.assertIs(False, is_parting(self.one, Named(), ("bo", {"age": 18})))
        self.assertIs(False, is_parting(self.one, Named(), ("ann", {"age": 17})))
        self.assertIs(False, is_parting(self.one, Named("ann"), ("ann", {"age": 18})))
        self.assertIs(False, is_parting(self.one, self.one, ("ann", {"age": 18})))

    def test_other_values_are_no_records(self):
        value = {"age": 18}
        wrong = [["ann", value], ("ann",), ("ann", value, value), (value, "ann"), ("Ann", value), (5, value), ("ann",) * 2]
        wrong += [("ann", {}), ("ann", {"age": 1000}), ("ann", {"age": True}), ("ann", [("age", 18)]), ("ann", None)]
        wrong += [("ann", {"age": 18, "B": 1}), (["ann"], value), (None, None), {"ann": value}, {0: "ann", 1: value}]
        wrong += [("ann", {"age": 18, **{letter: 1 for letter in "abcdef"}}), (True, value), "ann", "an"]
        for found in wrong + any_values():
            with self.subTest(found):
                self.assertIs(False, is_parting(self.one, Named(), found))
                self.assertIs(False, is_parting(~Named(), Named("zoe"), found))

    def test_both_must_be_conditions(self):
        for value in any_values():
            if not isinstance(value, Condition):
                assert_raises(self, InvalidCondition, "value", value, is_parting, value, Named(), None)
                assert_raises(self, InvalidCondition, "value", value, is_parting, Named(), value, None)
                assert_raises(self, InvalidCondition, "value", value, is_parting, value, [], ("a", {"a": 1}))

    def test_the_record_is_not_modified(self):
        found = ("ann", {"age": 18})
        is_parting(self.one, Named(), found)
        self.assertEqual(("ann", {"age": 18}), found)


if __name__ == "__main__":
    unittest.main()
