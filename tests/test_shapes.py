"""[71] to [73]: the rows of views from those of their parents, and the bounds for their steps."""

import random
import unittest

from listviews import shapes as module
from listviews.changes import Change
from listviews.errors import InvalidAnswer
from listviews.errors import InvalidInteger
from listviews.errors import InvalidRows
from listviews.errors import UnknownName
from listviews.errors import UnknownRow
from listviews.shapes import factor
from listviews.shapes import filtered
from listviews.shapes import first_ones
from listviews.shapes import grouped
from listviews.shapes import most_steps
from listviews.shapes import ordered
from listviews.shapes import window
from listviews.values import is_answer
from listviews.values import is_integer
from listviews.values import is_name
from listviews.values import is_rows

from samples import any_values
from samples import assert_raises
from samples import rows_of

KINDS = ("filtered", "ordered", "unique", "window", "grouped", "mapped")
NAMES = [one + other for one in "abcdefghi" for other in "abcdefghij"]
WITH_NUMBERS = (ordered, first_ones, grouped)
ALL_FOUR = (filtered, *WITH_NUMBERS)


def right_answers(shape, rows):
    return {row: True if shape == filtered else (at % 3,) for at, row in enumerate(rows)}


class ShapesTest(unittest.TestCase):
    def test_all_is_defined_in_this_file(self):
        for name in "filtered ordered first_ones grouped window factor most_steps".split():
            self.assertEqual("listviews.shapes", getattr(module, name).__module__)

    def test_filtered(self):
        answers = {"a": True, "b": False, "c": True, "z": 7}
        self.assertEqual(["c", "a"], filtered(["b", "c", "a"], answers))
        self.assertEqual(["a", "c"], filtered(rows=("a", "b", "c"), answers=answers))
        self.assertEqual([[], []], [filtered([], {}), filtered(["b"], answers)])

    def test_ordered_keeps_the_order_of_equal_answers(self):
        answers = {"a": 2, "b": (1, 5), "c": (2,), "d": 1, "e": (2, -1), "f": -9999}
        self.assertEqual(list("fdbace"), ordered(list("abcdef"), answers))
        self.assertEqual(list("fdbcae"), ordered(tuple("fedcba"), answers))
        self.assertEqual([], ordered(rows=[], answers={}))

    def test_first_ones(self):
        answers = {"a": 2, "b": (1, 5), "c": (2,), "d": 1, "e": (2, 0), "f": (1, 5)}
        self.assertEqual(list("abde"), first_ones(list("abcdef"), answers))
        self.assertEqual(list("fedc"), first_ones(rows=tuple("fedcba"), answers=answers))
        self.assertEqual([], first_ones([], answers))

    def test_grouped(self):
        answers = {"a": 2, "b": (1, 5), "c": (2,), "d": -1, "e": (2, 0), "f": (1, 5)}
        one, two, three, four = [("group", answer) for answer in ((-1,), (1, 5), (2,), (2, 0))]
        found, counts = grouped(list("abcdef"), answers)
        self.assertEqual([one, "d", two, "b", "f", three, "a", "c", four, "e"], found)
        self.assertEqual({one: 1, two: 2, three: 2, four: 1}, counts)
        self.assertIsInstance(grouped(rows=("a",), answers=answers), tuple)
        self.assertEqual(([], {}), grouped([], {}))

    def test_an_integer_and_the_tuple_with_it_alone_are_one_answer(self):
        for number in (-9999, -1, 0, 1, 9999):
            answers = {"a": number, "b": (number,), "c": number}
            self.assertEqual(list("cab"), ordered(list("cab"), answers))
            self.assertEqual(["b"], first_ones(list("bca"), answers))
            header = ("group", (number,))
            self.assertEqual(([header, "b", "a", "c"], {header: 3}), grouped(list("bac"), answers))
            self.assertEqual("(%d,)" % number, repr(grouped(["a"], answers)[0][0][1]))

    def test_forty_rows_and_eighty_in_a_group_of_each(self):
        rows = NAMES[:40]
        answers = {row: -at for at, row in enumerate(rows)}
        self.assertEqual(rows[::-1], ordered(rows, answers))
        found, counts = grouped(rows, answers)
        self.assertEqual((80, 40), (len(found), len(counts)))
        self.assertTrue(is_rows(found))

    def test_window(self):
        rows = ["a", ("group", (1,)), "c", "d"]
        for start in range(6):
            for count in range(6):
                self.assertEqual(rows[start:][:count], window(rows, start, count))
                self.assertEqual(rows[start:][:count], window(tuple(rows), start, count))
        rows = rows_of(80)
        self.assertEqual([rows, [], rows[79:], []], [window(rows, 0, 80), window(rows, 80, 80), window(rows, 79, 80), window(rows, 5, 0)])
        self.assertEqual(rows[3:7], window(rows=rows, start=3, count=4))

    def test_results_are_new(self):
        rows, answers = ["a", "b"], {"a": 1, "b": 1}
        header = ("group", (1,))

        def results():
            found, counts = grouped(rows, answers)
            plain = filtered(rows, {"a": True, "b": True})
            return [ordered(rows, answers), first_ones(rows, answers), window(rows, 0, 2), plain, found, counts]

        for one in results():
            one.clear()
        self.assertEqual((["a", "b"], {"a": 1, "b": 1}), (rows, answers))
        self.assertEqual([rows, ["a"], rows, rows, [header, "a", "b"], {header: 2}], results())


class RefusalsTest(unittest.TestCase):
    def test_rows_must_be_at_most_forty_different_names(self):
        wrong = [NAMES[:41], tuple(NAMES[:50]), ["a", "a"], ["a", ("group", (1,))], ["a", "A"], ["a", None], {"a": True}]
        wrong += [value for value in any_values() if not isinstance(value, (list, tuple))]
        wrong += [[value] for value in any_values() if not is_name(value)]
        for value in wrong:
            for shape in ALL_FOUR:
                for answers in ({}, None, {"a": 1}):
                    assert_raises(self, InvalidRows, "value", value, shape, value, answers)
        for shape in ALL_FOUR:
            self.assertTrue(shape(NAMES[:40], right_answers(shape, NAMES[:40])))

    def test_answers_must_be_a_dict(self):
        for value in any_values():
            if not isinstance(value, dict):
                for shape in ALL_FOUR:
                    assert_raises(self, InvalidAnswer, "value", value, shape, [], value)
                    assert_raises(self, InvalidAnswer, "value", value, shape, ("a", "b"), value)

    def test_each_row_must_have_an_entry(self):
        for shape in ALL_FOUR:
            for missing in range(3):
                rows = ["a", "b", "".join(["c", "d"])]
                answers = right_answers(shape, rows)
                # What is wrong behind the row is not looked at.
                for row in rows[missing + 1 :]:
                    answers[row] = None
                row = rows[missing]
                del answers[row]
                assert_raises(self, UnknownRow, "row", row, shape, rows, answers)
            assert_raises(self, UnknownRow, "row", "a", shape, ["a"], {1: True, "A": True})

    def test_each_entry_must_be_an_answer(self):
        wrong = [10000, -10000, (10000,), (1, 2, 3, 4), (True,), [1], (1, [2]), "1"] + any_values()
        for shape in ALL_FOUR:
            for value in wrong:
                if isinstance(value, bool) if shape == filtered else is_answer(value):
                    continue
                for at in range(3):
                    rows = ["a", "b", "c"]
                    answers = {row: entry for row, entry in right_answers(shape, rows).items() if rows.index(row) <= at}
                    answers[rows[at]] = value
                    assert_raises(self, InvalidAnswer, "value", value, shape, rows, answers)

    def test_booleans_are_answers_of_filtered_alone(self):
        for value in (True, False):
            self.assertEqual(["a"] * value, filtered(["a"], {"a": value}))
            for shape in WITH_NUMBERS:
                assert_raises(self, InvalidAnswer, "value", value, shape, ["a"], {"a": value})
        for value in (0, 1):
            assert_raises(self, InvalidAnswer, "value", value, filtered, ["a"], {"a": value})

    def test_entries_of_other_rows_make_no_difference(self):
        for shape in ALL_FOUR:
            answers = right_answers(shape, ["a", "b"])
            expected = shape(["a", "b"], answers)
            for value in any_values():
                self.assertEqual(expected, shape(["a", "b"], {**answers, "c": value, 1: value}))

    def test_wrong_windows(self):
        rows = rows_of(81)
        for value in [rows, rows_of(3) + rows_of(1), ["A"], {"a": 1}] + [one for one in any_values() if not is_rows(one)]:
            assert_raises(self, InvalidRows, "value", value, window, value, -1, -1)
        for value in [-1, 81, True, False] + any_values():
            if not is_integer(value, 0, 80):
                assert_raises(self, InvalidInteger, "value", value, window, [], value, None)
                assert_raises(self, InvalidInteger, "value", value, window, ["a"], 0, value)


class BoundsTest(unittest.TestCase):
    def test_factors(self):
        self.assertEqual([1, 1, 2, 2, 3, 1], [factor(kind) for kind in KINDS])
        self.assertEqual(1, factor(kind="mapped"))

    def test_most_steps(self):
        expected = {"filtered": 12, "ordered": 12, "unique": 24, "window": 10, "grouped": 31, "mapped": 5}
        for kind in KINDS:
            self.assertEqual(expected[kind], most_steps(kind, 5, 7))
            self.assertEqual(0, most_steps(kind=kind, steps=0, differing=0))
        self.assertEqual([1998, 999, 4995], [most_steps(kind, 999, 999) for kind in ("ordered", "mapped", "grouped")])

    def test_wrong_kinds_and_numbers(self):
        for value in any_values() + ["filter", "Ordered", "", "mapped ", ("mapped",), ["mapped"]]:
            assert_raises(self, UnknownName, "label", value, factor, value)
            assert_raises(self, UnknownName, "label", value, most_steps, value, -1, -1)
        for kind in KINDS:
            for value in [-1, 1000, True, False] + any_values():
                if not is_integer(value, 0, 999):
                    assert_raises(self, InvalidInteger, "value", value, most_steps, kind, value, None)
                    assert_raises(self, InvalidInteger, "value", value, most_steps, kind, 999, value)

    def draw_answers(self, chooser, shape, rows):
        most = chooser.randint(0, 4)
        if shape == filtered:
            return {row: chooser.random() < most / 4 for row in rows}
        return {row: chooser.choice([number, (number,), (number, 1)]) for row in rows for number in [chooser.randint(0, most)]}

    def draw_rows(self, chooser, rows, source):
        """Some of the rows, and some others, with little or much that changes."""
        kept = [row for row in rows if chooser.random() < chooser.choice([0.5, 0.9, 1])]
        for row in chooser.sample(source, chooser.randint(0, 3)):
            if row not in kept and len(kept) < 40:
                kept.insert(chooser.randint(0, len(kept)), row)
        for _ in range(chooser.randint(0, 4) if kept else 0):
            kept.insert(chooser.randrange(len(kept)), kept.pop(chooser.randrange(len(kept))))
        return kept

    def test_no_shape_needs_more_steps(self):
        kinds = {"filtered": filtered, "ordered": ordered, "unique": first_ones, "grouped": grouped}
        greatest = dict.fromkeys(kinds, 0)
        for seed in range(1200):
            chooser = random.Random(seed)
            kind = chooser.choice(list(kinds))
            shape = kinds[kind]
            old = chooser.sample(NAMES, chooser.randint(0, 12))
            new = self.draw_rows(chooser, old, NAMES)
            answers = self.draw_answers(chooser, shape, old)
            others = self.draw_answers(chooser, shape, new)
            later = {row: answers[row] if row in answers and chooser.random() < 0.8 else others[row] for row in new}
            rows = [shape(old, answers), shape(new, later)]
            before, after = [one[0] if kind == "grouped" else one for one in rows]
            plain = [{row: one if isinstance(one, tuple) else (one,) for row, one in some.items()} for some in (answers, later)]
            differing = [row for row in new if row in old and plain[0][row] != plain[1][row]]
            bound = most_steps(kind, len(Change.between(old, new)), len(differing))
            count = len(Change.between(before, after))
            self.assertLessEqual(count, bound, (kind, old, new, answers, later))
            greatest[kind] += count == bound > 0
        self.assertTrue(all(greatest.values()), greatest)

    def test_no_window_needs_more_steps(self):
        reached = 0
        for seed in range(600):
            chooser = random.Random(seed)
            old = rows_of(chooser.randint(0, 20))
            new = self.draw_rows(chooser, old, rows_of(30))
            start, count = chooser.randint(0, 10), chooser.randint(0, 10)
            steps = len(Change.between(window(old, start, count), window(new, start, count)))
            bound = most_steps("window", len(Change.between(old, new)), 0)
            self.assertLessEqual(steps, bound)
            reached += steps == bound > 0
        self.assertTrue(reached)


if __name__ == "__main__":
    unittest.main()
