"""[31] to [34]: orders, and what parts two of them."""

import itertools
import random
import unittest

from listviews import orders
from listviews.changes import Change
from listviews.conditions import Between
from listviews.errors import InvalidName
from listviews.errors import InvalidOrder
from listviews.errors import InvalidText
from listviews.errors import InvalidValue
from listviews.errors import TooMany
from listviews.orders import By
from listviews.orders import Plus
from listviews.orders import is_order_parting
from listviews.orders import order_parting
from listviews.values import is_name
from listviews.values import is_value

from samples import any_values
from samples import assert_raises

NO_FIELDS = ("-", "--a", "a-", "-a-", "- a", " a", "a ", "-A", "A", "", "+a", "a b", "a\n", "-a\n", "a1")
NO_FIELDS += ("abcdefghi", "-abcdefghi")


def is_field(value):
    """Tell by another way than the program's whether an order may have the field."""
    return is_name(value) or isinstance(value, str) and value[:1] == "-" and is_name(value[1:])


def all_orders(names, most=3):
    """All orders of at most so many fields out of these names."""
    fields = [sign + name for name in names for sign in ("", "-")]
    return [By(*found) for count in range(1, most + 1) for found in itertools.product(fields, repeat=count)]


def all_values(names):
    """A value for each choice of absent, 0 and 1 for these names, all with one field more."""
    choices = itertools.product((None, 0, 1), repeat=len(names))
    found = [dict(zip(names, choice)) for choice in choices]
    return [{"zz": 5, **{name: one for name, one in value.items() if one is not None}} for value in found]


class MakingTest(unittest.TestCase):
    def test_all_is_defined_in_this_file_and_class(self):
        for name in ("By", "Plus", "order_parting", "is_order_parting"):
            self.assertEqual("listviews.orders", getattr(orders, name).__module__)
        names = "__call__ fields __add__ __radd__ __neg__ __eq__ __str__ plain read is_as_fine"
        for name in names.split():
            self.assertIn(name, vars(By))

    def test_fields_are_as_passed(self):
        for fields in (("a",), ("-a",), ("b", "-a"), ("a", "a", "a"), ("-a", "a", "b"), ("abcdefgh", "-abcdefgh")):
            self.assertEqual(fields, By(*fields).fields)
            self.assertIs(tuple, By(*fields).fields.__class__)

    def test_there_must_be_a_field(self):
        assert_raises(self, InvalidOrder, "value", (), By)

    def test_three_fields_are_allowed_and_four_are_not(self):
        self.assertEqual(("a", "b", "c"), By("a", "b", "c").fields)
        for count in (4, 5, 110):
            assert_raises(self, TooMany, "count", count, By, *["a"] * count)
            assert_raises(self, TooMany, "count", count, By, *[None] * count)

    def test_the_first_item_that_is_no_field_is_told(self):
        for value in [*any_values(), *NO_FIELDS]:
            if not is_field(value):
                assert_raises(self, InvalidOrder, "value", value, By, value)
                assert_raises(self, InvalidOrder, "value", value, By, "-a", value, "B")
                assert_raises(self, InvalidOrder, "value", value, By, "a", "b", value)
            else:
                self.assertEqual((value,), By(value).fields)
        passed = ["a", "b"]
        assert_raises(self, InvalidOrder, "value", passed, By, passed)


class CallTest(unittest.TestCase):
    def test_answers(self):
        value = {"age": 7, "size": -2, "none": 0}
        for fields, answer in (
            (("age",), (7,)),
            (("-age",), (-7,)),
            (("size",), (-2,)),
            (("-size",), (2,)),
            (("none", "-none"), (0, 0)),
            (("x",), (-1000,)),
            (("-x",), (1000,)),
            (("size", "-x", "age"), (-2, 1000, 7)),
            (("age", "-age", "age"), (7, -7, 7)),
        ):
            self.assertEqual(answer, By(*fields)("ann", value))
            self.assertIs(tuple, By(*fields)("ann", value).__class__)

    def test_bounds(self):
        order = By("a", "-a")
        self.assertEqual((999, -999), order("b", {"a": 999}))
        self.assertEqual((-999, 999), order("b", {"a": -999}))
        self.assertEqual((-1000, 1000), order("a", {"b": -999}))

    def test_the_key_makes_no_difference(self):
        for key in ("a", "b", "abcdefgh"):
            self.assertEqual((3, -1000), By("a", "b")(key=key, value={"a": 3}))

    def test_wrong_arguments(self):
        for value in any_values():
            if not is_name(value):
                assert_raises(self, InvalidName, "value", value, By("a"), value, {"a": 1})
                assert_raises(self, InvalidName, "value", value, By("a"), value, None)
            if not is_value(value):
                assert_raises(self, InvalidValue, "value", value, By("age"), "ann", value)
        for value in ({"a": True}, {"a": 1000}, {"a": -1000}, {"a": 1, "B": 2}, {name: 0 for name in "abcdefg"}):
            assert_raises(self, InvalidValue, "value", value, By("a"), "ann", value)


class JoiningTest(unittest.TestCase):
    def test_orders_are_joined(self):
        one, other = By("a", "-b"), By("-a")
        self.assertEqual(("a", "-b", "-a"), (one + other).fields)
        self.assertEqual(("-a", "a", "-b"), (other + one).fields)
        self.assertEqual(("-a", "-a"), (other + other).fields)
        self.assertEqual([("a", "-b"), ("-a",)], [one.fields, other.fields])

    def test_strings_stand_for_orders_on_either_side(self):
        order = By("a", "-b")
        for field in ("a", "-c", "abcdefgh", "-abcdefgh"):
            self.assertEqual(("a", "-b", field), (order + field).fields)
            self.assertEqual((field, "a", "-b"), (field + order).fields)
        self.assertEqual(("x", "a", "-y"), ("x" + By("a") + "-y").fields)

    def test_a_variable_gets_the_joined_order(self):
        one = order = By("a")
        order += "-b"
        self.assertEqual([("a",), ("a", "-b")], [one.fields, order.fields])
        order += one
        self.assertEqual(("a", "-b", "a"), order.fields)

    def test_other_operands_are_told(self):
        order = By("a", "b", "c")
        for value in [*any_values(), *NO_FIELDS]:
            if isinstance(value, By) or is_field(value):
                continue
            assert_raises(self, InvalidOrder, "value", value, lambda: order + value)
            if not isinstance(value, Change):
                assert_raises(self, InvalidOrder, "value", value, lambda: value + order)
        for value in (Between("a"), Change(1, [0]), By, 10**29, ("a",), ["a"], {"a": 1}):
            assert_raises(self, InvalidOrder, "value", value, lambda: By("a") + value)

    def test_at_most_three_fields(self):
        one, two, three = By("a"), By("a", "b"), By("a", "b", "c")
        self.assertEqual(("a", "a", "b"), (one + two).fields)
        for parts in ((two, two), (one, three), (three, one), ("a", three), (three, "-a")):
            assert_raises(self, TooMany, "count", 4, lambda: parts[0] + parts[1])
        assert_raises(self, TooMany, "count", 5, lambda: two + three)
        assert_raises(self, TooMany, "count", 6, lambda: three + three)

    def test_minus(self):
        self.assertEqual(("-a", "b", "-abcdefgh"), (-By("a", "-b", "abcdefgh")).fields)
        for order in all_orders("ab"):
            self.assertEqual(order, --order)
            self.assertNotEqual(order, -order)
            answer = order("k", {"a": 5, "c": 1})
            self.assertEqual(tuple(-number for number in answer), (-order)("k", {"a": 5, "c": 1}))


class EqualityTest(unittest.TestCase):
    def test_equal_just_if_the_fields_are(self):
        found = all_orders("ab", 2)
        for one, other in itertools.product(found, repeat=2):
            self.assertIs(one.fields == other.fields, one == other)
            self.assertIs(one.fields != other.fields, one != other)
            self.assertEqual(one, By(*one.fields))

    def test_other_values_are_not_equal(self):
        for value in [*any_values(), ("age",), "age", Plus("age", 0)]:
            if not isinstance(value, By):
                self.assertIs(False, By("age") == value)
                self.assertIs(False, value == By("age"))
                self.assertIs(True, By("age") != value)

    def test_orders_never_change(self):
        order = By("a", "-a")
        order("k", {"a": 1}), order + "b", -order, order.plain(), str(order), repr(order)
        order.is_as_fine(By("b")), order_parting(order, By("b"))
        self.assertEqual(("a", "-a"), order.fields)
        with self.assertRaises(AttributeError):
            order.fields = ("b",)
        self.assertIsInstance(repr(order), str)


class PlainTest(unittest.TestCase):
    def test_repeated_fields_are_left_out(self):
        for text, plain in (
            ("a", "a"),
            ("a a", "a"),
            ("a -a", "a"),
            ("-a a", "-a"),
            ("a -a b", "a b"),
            ("a b -a", "a b"),
            ("a -b b", "a -b"),
            ("-a a -a", "-a"),
            ("a b c", "a b c"),
            ("-c -b -a", "-c -b -a"),
            ("ab a b", "ab a b"),
        ):
            order = By(*text.split())
            self.assertEqual(tuple(plain.split()), order.plain().fields)
            self.assertIs(By, order.plain().__class__)
            self.assertEqual(text, str(order))

    def test_plain_orders_order_alike(self):
        values = all_values("ab")
        for order in all_orders("ab"):
            plain = order.plain()
            self.assertEqual(len({name.strip("-") for name in order.fields}), len(plain.fields))
            for first, second in itertools.product(values, repeat=2):
                self.assertEqual(order("k", first) < order("k", second), plain("k", first) < plain("k", second))


class TextTest(unittest.TestCase):
    def test_texts(self):
        for text in ("a", "-a", "age -size", "a a -a", "-abcdefgh -abcdefgh -abcdefgh", "plus", "plus a -a", "not"):
            order = By(*text.split(" "))
            self.assertEqual(text, str(order))
            self.assertEqual(order, By.read(text))
            self.assertEqual(order, By.read(text=text))

    def test_other_values_are_refused(self):
        for value in any_values():
            if not (isinstance(value, str) and self.is_text(value)):
                assert_raises(self, InvalidText, "value", value, By.read, value)
        for value in (("a",), ["a"], By("a"), By):
            assert_raises(self, InvalidText, "value", value, By.read, value)

    def is_text(self, text):
        return 1 <= len(text.split(" ")) <= 3 and all(is_field(word) for word in text.split(" "))

    def test_a_character_or_a_word_otherwise(self):
        for text in ("age", "-a", "age -size", "-a -b c", "plus plus plus", "abcdefgh"):
            wrong = {text[:at] + text[at + 1 :] for at in range(len(text))}
            for at in range(len(text) + 1):
                for letter in " -\naZ0,.+\t":
                    wrong |= {text[:at] + letter + text[at:], text[:at] + letter + text[at + 1 :]}
            words = text.split(" ")
            for word in ("a", "-a", "-", "", "A", "1"):
                wrong |= {" ".join(words[:at] + [word] + words[at:]) for at in range(4)}
            for one in sorted(wrong):
                if self.is_text(one):
                    self.assertEqual(one, str(By.read(one)))
                else:
                    assert_raises(self, InvalidText, "value", one, By.read, one)

    def test_long_texts_are_refused(self):
        for text in ("a " * 2000, "a " * 1999 + "a", "a" * 4000, "-" * 4000, " " * 4000, "a b c d", "-a -a -a -a"):
            assert_raises(self, InvalidText, "value", text, By.read, text)


class FinenessTest(unittest.TestCase):
    def parts(self, one, other, values):
        """The pairs of values that the second order tells apart otherwise than the first one."""
        ones, others = [one("k", value) for value in values], [other("k", value) for value in values]
        places = range(len(values))
        return [(a, b) for a in places for b in places if others[a] < others[b] and not ones[a] < ones[b]]

    def check(self, one, other, values):
        found = order_parting(one, other)
        is_as_fine = not self.parts(one, other, values)
        self.assertIs(is_as_fine, one.is_as_fine(other), (str(one), str(other)))
        self.assertIs(is_as_fine, found is None, (str(one), str(other)))
        if found is not None:
            self.assertIs(tuple, found.__class__)
            first, second = found
            self.assertTrue(is_value(first) and is_value(second))
            self.assertIsNot(first, second)
            self.assertLess(other("k", first), other("k", second))
            self.assertGreaterEqual(one("k", first), one("k", second))
            self.assertIs(True, is_order_parting(one, other, found))
            self.assertIs(False, is_order_parting(one, other, (second, first)))

    def test_all_orders_of_two_names(self):
        values = all_values("ab")
        for one, other in itertools.product(all_orders("ab"), repeat=2):
            self.check(one, other, values)

    def test_orders_of_three_and_four_names(self):
        chooser, values = random.Random(34), all_values("abcd")
        found = all_orders("abcd")
        for _ in range(400):
            self.check(chooser.choice(found), chooser.choice(found), values)
        for one in all_orders("ab", 2):
            self.check(one, one + "c", values)
            self.check(one + "c", one, values)
            self.check(one + "c", one + "-c", values)
            self.check(one + "c", one + "d", values)

    def test_named_cases(self):
        for one, other, expected in (
            ("a", "a", True),
            ("a", "-a", False),
            ("a b", "a", True),
            ("a", "a b", False),
            ("a b", "b", False),
            ("a", "a -a a", True),
            ("a -a b", "a b", True),
            ("a b", "a a b", True),
            ("a b -a", "a b b", True),
            ("a b c", "a c", False),
            ("a", "b", False),
        ):
            self.assertIs(expected, By.read(one).is_as_fine(By.read(other)))
        one, other = By("a", "a", "b"), By("a", "b", "-a")
        self.assertTrue(one.is_as_fine(other=other) and other.is_as_fine(one) and one != other)
        self.assertEqual([None, None], [order_parting(one, other), order_parting(other=one, one=other)])

    def test_each_call_returns_new_values(self):
        first, second = order_parting(By("a"), By("b"))
        first["b"], second["b"] = 7, 7
        self.assertTrue(is_order_parting(By("a"), By("b"), order_parting(By("a"), By("b"))))

    def test_other_operands_are_told(self):
        order = By("a")
        for value in any_values():
            if not isinstance(value, By):
                assert_raises(self, InvalidOrder, "value", value, order.is_as_fine, value)
                for call in (order_parting, lambda one, other: is_order_parting(one, other, None)):
                    assert_raises(self, InvalidOrder, "value", value, call, value, order)
                    assert_raises(self, InvalidOrder, "value", value, call, order, value)
                    assert_raises(self, InvalidOrder, "value", value, call, value, ["x"])


class FoundTest(unittest.TestCase):
    def test_other_values_are_none_found(self):
        for value in any_values():
            self.assertIs(False, is_order_parting(By("b"), By("a"), value))
            self.assertIs(False, is_order_parting(By("b"), By("a"), found=(value, {"a": 9, "b": 1})))
            self.assertIs(False, is_order_parting(By("b"), By("a"), ({"a": 1, "b": 1}, value)))

    def test_what_is_found_must_be_a_tuple_of_two_values(self):
        first, second = {"a": 1, "b": 1}, {"a": 2, "b": 1}
        one, other = By("b"), By("a")
        self.assertIs(True, is_order_parting(one, other, (first, second)))
        for found in ([first, second], (first,), (first, second, second), (), {"a": first, "b": second}):
            self.assertIs(False, is_order_parting(one, other, found))
        for found in ((first, {"a": 1000}), (first, {"a": True}), ({}, second), ({"A": 1}, second), ((first, second),)):
            self.assertIs(False, is_order_parting(one, other, found))

    def test_just_the_lesser_one_stands_first(self):
        one, other = By("b"), By("a")
        for first, second, expected in (
            ({"a": 1, "b": 1}, {"a": 2, "b": 1}, True),
            ({"a": 1, "b": 2}, {"a": 2, "b": 1}, True),
            ({"a": 1, "b": 1}, {"a": 2, "b": 2}, False),
            ({"a": 1, "b": 2}, {"a": 1, "b": 1}, False),
            ({"a": 2, "b": 1}, {"a": 1, "b": 1}, False),
            ({"c": 1}, {"a": -999}, True),
            ({"b": 1}, {"a": 1}, True),
            ({"c": 1}, {"a": 1, "b": 1}, False),
            ({"c": 1}, {"c": 2}, False),
        ):
            self.assertIs(expected, is_order_parting(one, other, (first, second)))


if __name__ == "__main__":
    unittest.main()
