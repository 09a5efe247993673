"""[12], [13]: integers, names, values, rows, answers, numbers in texts, and words."""

import copy
import unittest

from listviews import values
from listviews.errors import InvalidAnswer
from listviews.values import answer_of
from listviews.values import is_answer
from listviews.values import is_integer
from listviews.values import is_name
from listviews.values import is_row
from listviews.values import is_rows
from listviews.values import is_value
from listviews.values import parse_integer
from listviews.values import split_words

from samples import a_function
from samples import any_values
from samples import assert_raises


def names(count):
    """So many different names."""
    letters = "abcdefghijklmnopqrstuvwxyz"
    return [letters[index // 26] + letters[index % 26] for index in range(count)]


class PredicateTest(unittest.TestCase):
    def check(self, predicate, good, bad):
        for value in good:
            with self.subTest(predicate.__name__, good=value):
                self.assertIs(True, predicate(value))
        for value in bad:
            with self.subTest(predicate.__name__, bad=value):
                self.assertIs(False, predicate(value))

    def test_is_integer(self):
        for value in (3, 4, 5):
            self.assertIs(True, is_integer(value, 3, 5))
        for value in (2, 6, -4, True, False, None, "4", [4], (4,), {4: 4}, a_function):
            self.assertIs(False, is_integer(value, 3, 5))

    def test_is_integer_takes_no_bool_between_its_bounds(self):
        self.assertIs(False, is_integer(True, 0, 1))
        self.assertIs(False, is_integer(False, 0, 1))
        self.assertIs(True, is_integer(1, 0, 1))
        self.assertIs(True, is_integer(0, 0, 1))

    def test_is_integer_with_other_bounds(self):
        self.assertIs(True, is_integer(4, 4, 4))
        self.assertIs(False, is_integer(4, 5, 3))
        self.assertIs(False, is_integer(4, 5, 4))
        self.assertIs(True, is_integer(-(10**30) + 1, -(10**30) + 1, 10**30 - 1))
        self.assertIs(True, is_integer(10**30 - 1, -(10**30) + 1, 10**30 - 1))
        self.assertIs(False, is_integer(10**30 - 1, 0, 10**30 - 2))

    def test_is_name(self):
        good = ["a", "z", "ann", "abcdefgh", "stuvwxyz", "not", "and", "or", "group"]
        bad = ["", "abcdefghi", "A", "aB", "a b", " a", "a\n", "a1", "1", "a-", "-a", "[", "`", "{", "ab" * 100]
        self.check(is_name, good, [*bad, None, True, False, 0, 5, ["a"], ("a",), {"a": 1}, ["a", "b"], a_function])

    def test_no_other_characters_than_letters_make_a_name(self):
        for character in ["\n", *map(chr, range(32, 127))]:
            for text in (character, "a" + character, character + "z"):
                self.assertIs("a" <= character <= "z", is_name(text))

    def test_is_value(self):
        six = {"a": 1, "b": 2, "c": 3, "d": 4, "e": 5, "f": 6}
        good = [{"age": 30}, {"a": -999}, {"a": 999}, {"abcdefgh": 0}, six, {"not": 0, "and": 1}]
        bad = [{}, {**six, "g": 7}, {"a": -1000}, {"a": 1000}, {"a": True}, {"a": False}, {"a": None}, {"a": "1"}]
        bad += [{"a": [1]}, {"a": (1,)}, {1: 1}, {"": 1}, {"A": 1}, {"abcdefghi": 1}, {"a": 1, "B": 1}, {"a": 1, 0: 1}]
        bad += [{"a": 1, "b": 1000}, [("a", 1)], (("a", 1),), [], (), "a", "", None, True, 0, a_function]
        self.check(is_value, good, bad)

    def test_is_row(self):
        good = ["ann", "group", "a", ("group", (1,)), ("group", (1, 2)), ("group", (-9999, 0, 9999))]
        bad = [("group", 1), ("group", ()), ("group", (1, 2, 3, 4)), ("group", [1]), ["group", (1,)], ("group",)]
        bad += [("group", (1,), 1), ("groups", (1,)), ("Group", (1,)), ((1,), "group"), ("group", (10000,))]
        bad += [("group", (-10000,)), ("group", (True,)), ("group", (None,)), ("group", "ann"), (1,), ()]
        bad += ["", "Ann", "abcdefghi", ["ann"], ("ann",), ("ann", {"age": 1}), None, True, 1, {}, a_function]
        self.check(is_row, good, bad)

    def test_is_rows(self):
        headers = [("group", (number,)) for number in range(40)]
        good = [[], (), ["ann"], ("ann",), ["ann", "bob"], ("group", "ann"), [("group", (1,)), "ann"], names(80)]
        good += [tuple(names(80)), headers + names(40), [("group", (1,)), ("group", (1, 1)), ("group", (1, 1, 1))]]
        bad = [["ann", "ann"], ("ann", "bob", "ann"), [("group", (1,)), "ann", ("group", (1,))], names(81)]
        bad += [tuple(names(81)), headers + names(41), ["ann", "Bob"], ["ann", ["bob"]], [["ann"]], [1], [None]]
        bad += [("group", (1,)), [("group", 1)], [("group", [1])], ["a", {}], [a_function], [("group", (True,))]]
        bad += ["ann", "", {}, {"ann": 1}, None, True, 0, a_function]
        self.check(is_rows, good, bad)

    def test_is_answer(self):
        good = [0, 7, -9999, 9999, (0,), (1, 2), (-9999, 9999, 0), (5, 5, 5)]
        bad = [-10000, 10000, 10**29, (), (1, 2, 3, 4), (10000,), (0, -10000), (True,), (1, False), True, False, None]
        self.check(is_answer, good, [*bad, [1], [], ["1"], "1", ("1",), ((1,),), (1, None), {}, {1: 1}, a_function])

    def test_any_value_is_answered_and_stays_as_it_is(self):
        for predicate in (is_name, is_value, is_row, is_rows, is_answer):
            for value, same in zip(any_values(), any_values()):
                self.assertIsInstance(predicate(value), bool)
                self.assertEqual(same, value)

    def test_nothing_passed_is_modified(self):
        value = {"age": 30, "size": 4}
        rows = ["ann", ("group", (1,))]
        before = copy.deepcopy((value, rows))
        is_value(value)
        is_rows(rows)
        self.assertEqual(before, (value, rows))

    def test_arguments_by_name(self):
        self.assertIs(True, is_integer(value=3, low=3, high=3))
        self.assertIs(True, is_name(value="a"))
        self.assertIs(True, is_value(value={"a": 1}))
        self.assertIs(True, is_row(value="a"))
        self.assertIs(True, is_rows(value=["a"]))
        self.assertIs(True, is_answer(value=3))
        self.assertEqual((3,), answer_of(value=3))
        self.assertEqual(3, parse_integer(text="3"))
        self.assertEqual(["a"], split_words(text="a"))


class AnswerOfTest(unittest.TestCase):
    def test_answers_and_integers(self):
        for value, answer in ((7, (7,)), (-9999, (-9999,)), (9999, (9999,)), ((7,), (7,)), ((1, 2, 3), (1, 2, 3))):
            self.assertEqual(answer, answer_of(value))

    def test_other_values_are_refused_with_the_very_object(self):
        for value in (-10000, 10000, True, False, None, "7", [7], (), (1, 2, 3, 4), (True,), (10000,), {}, a_function):
            with self.subTest(value):
                assert_raises(self, InvalidAnswer, "value", value, answer_of, value)

    def test_it_raises_just_where_is_answer_says_so(self):
        for value in any_values():
            if is_answer(value):
                self.assertIs(True, is_answer(answer_of(value)))
            else:
                assert_raises(self, InvalidAnswer, "value", value, answer_of, value)


class ParseIntegerTest(unittest.TestCase):
    def test_numbers(self):
        for text, number in (("0", 0), ("7", 7), ("-7", -7), ("10", 10), ("-40", -40), ("999", 999), ("-999", -999)):
            self.assertEqual(number, parse_integer(text))

    def test_no_numbers(self):
        bad = ["", "-", "-0", "00", "01", "-01", "040", "--1", "+1", " 1", "1 ", "1\n", "\n1", "1-", "1_0", "1 0", "a"]
        for text in [*bad, "1a", "0x1", "1.", "1.0", "1e2", "- 1", "-1-", "1,0", "()", "1000", "-1000", "9" * 4000]:
            with self.subTest(text):
                self.assertIsNone(parse_integer(text))

    def test_no_other_characters_than_digits_make_a_number(self):
        for character in ["\n", *map(chr, range(32, 127))]:
            if not "0" <= character <= "9":
                for text in (character, "1" + character, "1" + character + "1", "-1" + character):
                    self.assertIsNone(parse_integer(text))

    def test_other_values(self):
        for value in any_values():
            if not isinstance(value, str):
                self.assertIsNone(parse_integer(value))
        for value in (5, True, None, ["5"], ("5",), b"5"):
            self.assertIsNone(parse_integer(value))

    def test_bounds(self):
        self.assertEqual([None, 3, 5, None], [parse_integer(text, low=3, high=5) for text in ("2", "3", "5", "6")])
        self.assertEqual([None, -5, -3, None], [parse_integer(t, low=-5, high=-3) for t in ("-6", "-5", "-3", "-2")])
        self.assertIsNone(parse_integer("4", low=5, high=3))
        self.assertEqual(1000, parse_integer("1000", high=1000))
        self.assertEqual(-1000, parse_integer("-1000", low=-1000))
        self.assertIsNone(parse_integer("-1", low=0))
        self.assertIsNone(parse_integer("1", high=0))

    def test_thirty_digits(self):
        least, most = -(10**31), 10**31
        self.assertEqual(10**30 - 1, parse_integer("9" * 30, low=least, high=most))
        self.assertEqual(1 - 10**30, parse_integer("-" + "9" * 30, low=least, high=most))
        self.assertIsNone(parse_integer("1" + "0" * 30, low=least, high=most))
        self.assertIsNone(parse_integer("-1" + "0" * 30, low=least, high=most))
        self.assertIsNone(parse_integer("9" * 31, low=least, high=most))

    def test_each_number_is_read_back(self):
        for number in range(-999, 1000):
            self.assertEqual(number, parse_integer(str(number)))

    def test_bounds_are_passed_by_name_alone(self):
        with self.assertRaises(TypeError):
            parse_integer("3", 0, 9)


class SplitWordsTest(unittest.TestCase):
    def test_words(self):
        for text in ("a", "a b", "a b+c", "- ( ) [x]", "not a 3..5", "/ /", "x" * 4000, " ".join("x" * 2000)):
            words = split_words(text)
            self.assertIsInstance(words, list)
            self.assertEqual(text, " ".join(words))
            self.assertNotIn("", words)
        self.assertEqual(["a", "b+c"], split_words("a b+c"))

    def test_no_words(self):
        for text in ("", " ", "  ", " a", "a ", "a  b", "a b ", "\n", "a\n", "\na", "a\nb", "a \nb", "a b\n", " " * 4000):
            with self.subTest(text):
                self.assertIsNone(split_words(text))

    def test_other_values(self):
        for value in any_values():
            if not isinstance(value, str):
                self.assertIsNone(split_words(value))

    def test_each_call_returns_a_new_list(self):
        words = split_words("a b")
        words.append("c")
        self.assertEqual(["a", "b"], split_words("a b"))


class InterfaceTest(unittest.TestCase):
    def test_functions_are_defined_in_this_file(self):
        for name in ("is_integer", "is_name", "is_value", "is_row", "is_rows", "is_answer", "answer_of"):
            self.assertEqual("listviews.values", getattr(values, name).__module__)
        for name in ("parse_integer", "split_words"):
            self.assertEqual("listviews.values", getattr(values, name).__module__)


if __name__ == "__main__":
    unittest.main()
