"""[21], [22]: how conditions are made, which records they hold for, and what they consist of."""

import copy
import itertools
import unittest

from listviews import conditions
from listviews.conditions import Between
from listviews.conditions import Both
from listviews.conditions import Condition
from listviews.conditions import Either
from listviews.conditions import Leaf
from listviews.conditions import Named
from listviews.conditions import Not
from listviews.conditions import Pair
from listviews.errors import InvalidCondition
from listviews.errors import InvalidInteger
from listviews.errors import InvalidName
from listviews.errors import InvalidValue
from listviews.errors import TooMany
from listviews.values import is_integer
from listviews.values import is_name
from listviews.values import is_value

from samples import a_function
from samples import any_values
from samples import assert_raises

KINDS = (Between, Named, Both, Either, Not)


def leaf():
    return Between("a")


def deep(depth):
    """A condition of this depth with one leaf."""
    condition = leaf()
    for _ in range(depth - 1):
        condition = Not(condition)
    return condition


def wide(leaves):
    """A condition with so many leaves, as flat as possible."""
    if leaves == 1:
        return leaf()
    return Both(wide(leaves // 2), wide(leaves - leaves // 2))


def one_of_each():
    return [Between("age"), Named("ann"), Both(leaf(), leaf()), Either(leaf(), leaf()), Not(leaf())]


class ClassesTest(unittest.TestCase):
    def test_which_class_stands_under_which(self):
        for kind in KINDS:
            self.assertTrue(issubclass(kind, Condition))
            self.assertEqual(kind in (Between, Named), issubclass(kind, Leaf))
            self.assertEqual(kind in (Both, Either), issubclass(kind, Pair))
        for kind in (Leaf, Pair):
            self.assertFalse(issubclass(kind, Condition))
        for kind, other in itertools.permutations(KINDS, 2):
            self.assertFalse(issubclass(kind, other))

    def test_methods_stand_in_the_classes_themselves(self):
        common = ["__call__", "leaves", "depth", "__and__", "__or__", "__invert__", "__eq__", "__str__"]
        own = {Between: ["field", "low", "high"], Named: ["accepted"], Both: ["one", "other"]}
        own.update({Either: ["one", "other"], Not: ["one"]})
        for kind in KINDS:
            for name in common + own[kind]:
                self.assertIn(name, vars(kind))
        self.assertIn("read", vars(Condition))

    def test_all_is_defined_in_this_file(self):
        names = ["Condition", "Leaf", "Pair", "Between", "Named", "Both", "Either", "Not", "parting", "is_parting"]
        for name in names:
            self.assertEqual("listviews.conditions", getattr(conditions, name).__module__)


class BetweenTest(unittest.TestCase):
    def test_properties(self):
        condition = Between("age", low=-5, high=7)
        self.assertEqual(("age", -5, 7), (condition.field, condition.low, condition.high))
        condition = Between(field="age")
        self.assertEqual(("age", -999, 999), (condition.field, condition.low, condition.high))

    def test_greatest_and_least_bounds(self):
        for low, high in ((-999, 999), (-999, -999), (999, 999), (0, 0), (998, 999), (-999, -998)):
            condition = Between("a", low=low, high=high)
            self.assertEqual((low, high), (condition.low, condition.high))

    def test_field_must_be_a_name(self):
        for value in any_values():
            if not is_name(value):
                assert_raises(self, InvalidName, "value", value, Between, value)
        for value in ("abcdefghi", "", "Age", "age ", "-age"):
            assert_raises(self, InvalidName, "value", value, Between, value, low=5, high=4)

    def test_low_must_be_an_integer(self):
        for value in any_values():
            if not is_integer(value, -999, 999):
                assert_raises(self, InvalidInteger, "value", value, Between, "a", low=value)
        for value in (-1000, 1000, True, False, 10**30 - 1):
            assert_raises(self, InvalidInteger, "value", value, Between, "a", low=value, high="x")

    def test_high_must_be_an_integer_from_low_on(self):
        for value in any_values():
            if not is_integer(value, -999, 999):
                assert_raises(self, InvalidInteger, "value", value, Between, "a", high=value)
        for low, high in ((5, 4), (0, -1), (999, 998), (-998, -999), (-999, 1000), (0, True), (0, False), (5, None)):
            assert_raises(self, InvalidInteger, "value", high, Between, "a", low=low, high=high)

    def test_field_is_checked_first_then_low_then_high(self):
        passed = ["x y"]
        assert_raises(self, InvalidName, "value", passed, Between, passed, low="l", high="h")
        low = ["l"]
        assert_raises(self, InvalidInteger, "value", low, Between, "a", low=low, high="h")

    def test_bounds_are_passed_by_name_alone(self):
        with self.assertRaises(TypeError):
            Between("a", 3)

    def test_it_holds_from_low_to_high(self):
        condition = Between("age", low=-2, high=3)
        for number in range(-999, 1000):
            self.assertIs(-2 <= number <= 3, condition("ann", {"age": number}))

    def test_it_holds_for_any_integer_without_bounds(self):
        for number in (-999, -1, 0, 1, 999):
            self.assertIs(True, Between("age")("ann", {"size": 1, "age": number}))

    def test_it_does_not_hold_without_the_field(self):
        self.assertIs(False, Between("age")("age", {"size": 3}))
        self.assertIs(False, Between("age", low=0, high=0)("ann", {"ages": 0, "ag": 0}))


class NamedTest(unittest.TestCase):
    def test_properties(self):
        for names in ((), ("ann",), ("bob", "ann"), ("a", "a"), tuple("abcdefgh"), ("a",) * 8):
            self.assertEqual(names, Named(*names).accepted)
            self.assertIsInstance(Named(*names).accepted, tuple)

    def test_at_most_eight_names(self):
        for count in (9, 10, 18):
            assert_raises(self, TooMany, "count", count, Named, *["a"] * count)
            assert_raises(self, TooMany, "count", count, Named, *[None] * count)

    def test_the_first_item_that_is_no_name_is_told(self):
        for value in any_values():
            if not is_name(value):
                assert_raises(self, InvalidName, "value", value, Named, value)
                assert_raises(self, InvalidName, "value", value, Named, "a", value, "B", [])
        assert_raises(self, InvalidName, "value", "H", Named, *"abcdefgH")

    def test_it_holds_for_its_names(self):
        condition = Named("bob", "ann")
        for key in ("ann", "bob"):
            self.assertIs(True, condition(key, {"age": 1}))
        for key in ("an", "bobb", "a", "annbob"):
            self.assertIs(False, condition(key, {"ann": 1}))

    def test_without_names_it_never_holds(self):
        for key in ("a", "ann", "abcdefgh"):
            self.assertIs(False, Named()(key, {"age": 1}))


class JoinedTest(unittest.TestCase):
    def test_properties_are_the_very_parts(self):
        one, other = Between("a"), Named("b")
        for kind in (Both, Either):
            condition = kind(one=one, other=other)
            self.assertIs(one, condition.one)
            self.assertIs(other, condition.other)
        self.assertIs(one, Not(one=one).one)

    def test_parts_must_be_conditions(self):
        for value in any_values():
            if isinstance(value, Condition):
                continue
            assert_raises(self, InvalidCondition, "value", value, Not, value)
            for kind in (Both, Either):
                assert_raises(self, InvalidCondition, "value", value, kind, value, leaf())
                assert_raises(self, InvalidCondition, "value", value, kind, leaf(), value)
                assert_raises(self, InvalidCondition, "value", value, kind, value, [])

    def test_a_class_is_no_condition(self):
        for value in (Between, Condition, Leaf, Pair):
            assert_raises(self, InvalidCondition, "value", value, Not, value)

    def test_when_they_hold(self):
        one, other = Between("a"), Named("ann")
        for key, value in itertools.product(("ann", "bob"), ({"a": 1}, {"b": 1})):
            first, second = "a" in value, key == "ann"
            self.assertIs(first and second, Both(one, other)(key, value))
            self.assertIs(first or second, Either(one, other)(key, value))
            self.assertIs(not first, Not(one)(key, value))
            self.assertIs(not second, Not(other)(key, value))
            self.assertIs(second and not (first or second), Both(other, Not(Either(one, other)))(key, value))


class LimitsTest(unittest.TestCase):
    def test_leaves_and_depth(self):
        for condition in (leaf(), Named(), Named("a", "b")):
            self.assertEqual((1, 1), (condition.leaves(), condition.depth()))
        self.assertEqual((1, 2), (Not(leaf()).leaves(), Not(leaf()).depth()))
        for kind in (Both, Either):
            condition = kind(kind(leaf(), leaf()), deep(4))
            self.assertEqual((3, 5), (condition.leaves(), condition.depth()))
            condition = kind(leaf(), kind(leaf(), leaf()))
            self.assertEqual((3, 3), (condition.leaves(), condition.depth()))
            condition = kind(deep(2), leaf())
            self.assertEqual((2, 3), (condition.leaves(), condition.depth()))

    def test_six_leaves_are_allowed_and_seven_are_not(self):
        for kind in (Both, Either):
            self.assertEqual(6, kind(wide(3), wide(3)).leaves())
            self.assertEqual(6, kind(wide(2), wide(4)).leaves())
            assert_raises(self, TooMany, "count", 7, kind, wide(3), wide(4))
            assert_raises(self, TooMany, "count", 7, kind, wide(6), leaf())
            assert_raises(self, TooMany, "count", 12, kind, wide(6), wide(6))

    def test_depth_five_is_allowed_and_six_is_not(self):
        self.assertEqual(5, deep(5).depth())
        assert_raises(self, TooMany, "count", 6, Not, deep(5))
        for kind in (Both, Either):
            for one, other in ((deep(4), leaf()), (leaf(), deep(4)), (deep(4), deep(4))):
                self.assertEqual(5, kind(one, other).depth())
            for one, other in ((deep(5), leaf()), (leaf(), deep(5)), (deep(5), deep(5))):
                assert_raises(self, TooMany, "count", 6, kind, one, other)

    def test_eight_names_together_are_allowed_and_nine_are_not(self):
        for kind in (Both, Either):
            condition = kind(Named(*"abcd"), Not(Named(*"abcd")))
            self.assertEqual(2, condition.leaves())
            self.assertEqual(2, kind(Named(*"abcdefgh"), Named()).leaves())
            assert_raises(self, TooMany, "count", 9, kind, Named(*"abcd"), Named(*"abcde"))
            assert_raises(self, TooMany, "count", 9, kind, condition, Named("a"))
            assert_raises(self, TooMany, "count", 9, kind, Named("a"), Not(condition))
            assert_raises(self, TooMany, "count", 16, kind, Named(*"abcdefgh"), Named(*"aaaaaaaa"))
        self.assertEqual(2, Not(Named(*"abcdefgh")).depth())

    def test_leaves_are_counted_before_depth_and_depth_before_names(self):
        names = Named(*"abcdefgh")
        six = Both(wide(3), Both(leaf(), Both(leaf(), Not(names))))
        self.assertEqual((6, 5), (six.leaves(), six.depth()))
        for kind in (Both, Either):
            assert_raises(self, TooMany, "count", 7, kind, six, names)
            five = Not(Not(Not(Both(leaf(), names))))
            self.assertEqual((2, 5), (five.leaves(), five.depth()))
            assert_raises(self, TooMany, "count", 6, kind, five, names)
            assert_raises(self, TooMany, "count", 16, kind, Not(names), names)


class CallTest(unittest.TestCase):
    def test_key_must_be_a_name(self):
        for condition in one_of_each():
            for key in any_values():
                if not is_name(key):
                    assert_raises(self, InvalidName, "value", key, condition, key, {"age": 1})
                    assert_raises(self, InvalidName, "value", key, condition, key, None)

    def test_value_must_be_a_value(self):
        wrong = [{}, {"a": 1000}, {"a": -1000}, {"a": True}, {"A": 1}, {letter: 1 for letter in "abcdefg"}]
        for condition in one_of_each():
            for value in any_values() + wrong:
                if not is_value(value):
                    assert_raises(self, InvalidValue, "value", value, condition, "ann", value)

    def test_parts_that_are_not_needed_do_not_hide_a_wrong_record(self):
        assert_raises(self, InvalidName, "value", "", Both(Named(), leaf()), "", {"a": 1})
        assert_raises(self, InvalidValue, "value", 5, Either(~Named(), leaf()), "a", 5)

    def test_arguments_by_name(self):
        for condition in one_of_each():
            self.assertIsInstance(condition(value={"age": 1}, key="ann"), bool)

    def test_the_value_is_not_modified(self):
        value = {"age": 1, "a": 5}
        for condition in one_of_each():
            condition("ann", value)
        self.assertEqual({"age": 1, "a": 5}, value)


class OperatorTest(unittest.TestCase):
    def test_signs_make_the_conditions(self):
        for one in one_of_each():
            self.assertEqual(Not(one), ~one)
            self.assertIs(one, (~one).one)
            for other in one_of_each():
                self.assertIs(Both, (one & other).__class__)
                self.assertIs(Either, (one | other).__class__)
                for joined in (one & other, one | other):
                    self.assertIs(one, joined.one)
                    self.assertIs(other, joined.other)

    def test_other_operands_are_refused(self):
        for one in one_of_each():
            for other in any_values():
                if not isinstance(other, Condition):
                    assert_raises(self, InvalidCondition, "value", other, lambda: one & other)
                    assert_raises(self, InvalidCondition, "value", other, lambda: one | other)

    def test_limits_hold_for_signs(self):
        six = wide(6)
        assert_raises(self, TooMany, "count", 7, lambda: six & leaf())
        assert_raises(self, TooMany, "count", 7, lambda: leaf() | six)
        assert_raises(self, TooMany, "count", 6, lambda: ~deep(5))
        assert_raises(self, TooMany, "count", 9, lambda: Named(*"abcde") & Named(*"abcd"))

    def test_in_place_signs_change_the_variable_alone(self):
        one = joined = Between("a")
        joined &= Named("b")
        self.assertEqual("a -999..999", str(one))
        self.assertEqual("(a -999..999 and [b])", str(joined))


class EqualityTest(unittest.TestCase):
    def various(self):
        leaves = [Between("a"), Between("b"), Between("a", low=1), Between("a", high=1), Between("a", low=1, high=1)]
        leaves += [Named(), Named("a"), Named("b"), Named("a", "b"), Named("b", "a"), Named("a", "a")]
        found = list(leaves)
        for one, other in itertools.product(leaves[:2] + leaves[5:7], repeat=2):
            found += [Both(one, other), Either(one, other)]
        found += [Not(one) for one in found]
        return found

    def test_equal_just_if_class_and_properties_are_equal(self):
        various, same = self.various(), self.various()
        for first, one in enumerate(various):
            for second, other in enumerate(same):
                self.assertIs(first == second, one == other)
                self.assertIs(first != second, one != other)

    def test_conditions_that_hold_alike_need_not_be_equal(self):
        self.assertNotEqual(Between("a"), ~~Between("a"))
        self.assertNotEqual(Between("a") & Between("b"), Between("b") & Between("a"))

    def test_other_values_are_not_equal(self):
        for condition in one_of_each():
            for value in any_values():
                if not isinstance(value, Condition):
                    self.assertIs(False, condition == value)
                    self.assertIs(False, value == condition)
                    self.assertIs(True, condition != value)

    def test_order_of_arguments_by_name_makes_no_difference(self):
        self.assertEqual(Between("a", low=1, high=2), Between(high=2, low=1, field="a"))


class NeverChangeTest(unittest.TestCase):
    def test_properties_cannot_be_set(self):
        for condition in one_of_each():
            for name in ("field", "low", "high", "accepted", "one", "other"):
                if hasattr(condition, name):
                    with self.assertRaises(AttributeError):
                        setattr(condition, name, a_function)

    def test_uses_leave_conditions_as_they_are(self):
        for condition in one_of_each():
            before = copy.deepcopy(condition)
            condition("ann", {"age": 1})
            ~condition & (condition | condition)
            str(condition), condition.leaves(), condition.depth()
            conditions.parting(condition, Named())
            self.assertEqual(before, condition)
            self.assertEqual(str(before), str(condition))

    def test_repr_is_a_string(self):
        for condition in one_of_each():
            self.assertIsInstance(repr(condition), str)


if __name__ == "__main__":
    unittest.main()
