"""[35]: functions that add a number to a field."""

import itertools
import unittest

from listviews.errors import InvalidInteger
from listviews.errors import InvalidName
from listviews.errors import InvalidText
from listviews.errors import InvalidValue
from listviews.orders import By
from listviews.orders import Plus
from listviews.values import is_integer
from listviews.values import is_name
from listviews.values import is_value

from samples import any_values
from samples import assert_raises


class MakingTest(unittest.TestCase):
    def test_methods_stand_in_the_class_itself(self):
        for name in "__call__ field number __eq__ __str__ read".split():
            self.assertIn(name, vars(Plus))

    def test_properties(self):
        for number in (-999, -1, 0, 1, 999):
            plus = Plus(number=number, field="plus")
            self.assertEqual(("plus", number), (plus.field, plus.number))

    def test_wrong_arguments(self):
        for value in any_values():
            if not is_name(value):
                assert_raises(self, InvalidName, "value", value, Plus, value, 1)
                assert_raises(self, InvalidName, "value", value, Plus, value, "x")
            if not is_integer(value, -999, 999):
                assert_raises(self, InvalidInteger, "value", value, Plus, "a", value)
        for value in (-1000, 1000, True, False):
            assert_raises(self, InvalidInteger, "value", value, Plus, "a", value)
        assert_raises(self, InvalidName, "value", "-a", Plus, "-a", 1)


class CallTest(unittest.TestCase):
    def test_the_number_is_added(self):
        for number, had, has in (
            (5, 1, 6),
            (-5, 1, -4),
            (0, 7, 7),
            (1, 998, 999),
            (1, 999, 999),
            (999, 1, 999),
            (999, 999, 999),
            (-1, -998, -999),
            (-1, -999, -999),
            (-999, -999, -999),
            (999, -999, 0),
            (-999, 999, 0),
        ):
            self.assertEqual({"a": has, "b": 3}, Plus("a", number)("ann", {"a": had, "b": 3}))

    def test_a_value_without_the_field_stays_equal(self):
        value = {"b": 3, "ab": 999}
        result = Plus("a", 5)("a", value)
        self.assertEqual({"b": 3, "ab": 999}, result)
        self.assertIsNot(value, result)

    def test_what_is_passed_is_not_modified(self):
        value = {"a": 1}
        result = Plus("a", 5)(value=value, key="ann")
        self.assertEqual([{"a": 1}, {"a": 6}], [value, result])
        result["a"] = 0
        self.assertEqual({"a": 6}, Plus("a", 5)("ann", value))

    def test_wrong_arguments(self):
        for value in any_values():
            if not is_name(value):
                assert_raises(self, InvalidName, "value", value, Plus("a", 1), value, {"a": 1})
                assert_raises(self, InvalidName, "value", value, Plus("a", 1), value, None)
            if not is_value(value):
                assert_raises(self, InvalidValue, "value", value, Plus("a", 1), "ann", value)


class EqualityTest(unittest.TestCase):
    def test_equal_just_if_both_properties_are(self):
        parts = list(itertools.product(("a", "b", "plus"), (-1, 0, 1)))
        for one, other in itertools.product(parts, repeat=2):
            self.assertIs(one == other, Plus(*one) == Plus(*other))
            self.assertIs(one != other, Plus(*one) != Plus(*other))

    def test_other_values_are_not_equal(self):
        for value in [*any_values(), By("age"), "plus age 1"]:
            if not isinstance(value, Plus):
                self.assertIs(False, Plus("age", 1) == value)
                self.assertIs(False, value == Plus("age", 1))

    def test_properties_cannot_be_set(self):
        for name in ("field", "number"):
            with self.assertRaises(AttributeError):
                setattr(Plus("a", 1), name, 2)
        self.assertIsInstance(repr(Plus("a", 1)), str)


class TextTest(unittest.TestCase):
    TEXTS = ("plus age -3", "plus plus 0", "plus a 999", "plus abcdefgh -999", "plus a 10", "plus b 5")

    def is_text(self, text):
        """Tell by another way than the program's whether this is the text of a Plus."""
        words = text.split(" ")
        return len(words) == 3 and words[0] == "plus" and is_name(words[1]) and words[2] in map(str, range(-999, 1000))

    def test_texts(self):
        for text in self.TEXTS:
            _, field, number = text.split(" ")
            self.assertEqual(text, str(Plus(field, int(number))))
            self.assertEqual(Plus(field, int(number)), Plus.read(text))
            self.assertEqual(text, str(Plus.read(text=text)))

    def test_other_values_are_refused(self):
        for value in [*any_values(), Plus("a", 1), ("plus", "a", 1), ["plus a 1"], "plus"]:
            assert_raises(self, InvalidText, "value", value, Plus.read, value)

    def test_a_character_or_a_word_otherwise(self):
        for text in self.TEXTS:
            wrong = {text[:at] + text[at + 1 :] for at in range(len(text))}
            for at in range(len(text) + 1):
                for letter in " -+\naZ019._":
                    wrong |= {text[:at] + letter + text[at:], text[:at] + letter + text[at + 1 :]}
            words = text.split(" ")
            for at in range(4):
                wrong |= {" ".join(words[:at] + [word] + words[at:]) for word in ("plus", "a", "1", "-", "")}
                wrong |= {" ".join(words[:at] + words[at + 1 :])}
            for one in sorted(wrong):
                if self.is_text(one):
                    self.assertEqual(one, str(Plus.read(one)))
                else:
                    assert_raises(self, InvalidText, "value", one, Plus.read, one)

    def test_bounds_and_notation(self):
        for number in ("1000", "-1000", "-0", "00", "+1", "1.0", "9" * 30, "9" * 3990, "", "one"):
            text = f"plus a {number}"
            assert_raises(self, InvalidText, "value", text, Plus.read, text)
        for text in ("plus -a 1", "plus a 1\n", "minus a 1", "Plus a 1", "plus plus", "plus 1 a", "plus a 1 " * 400):
            assert_raises(self, InvalidText, "value", text, Plus.read, text)


if __name__ == "__main__":
    unittest.main()
