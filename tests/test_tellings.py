"""[81]: tellings, and those that lead from one state to another."""

import itertools
import random
import unittest

from listviews import telling as module
from listviews.changes import Change
from listviews.errors import InvalidChange
from listviews.errors import InvalidRows
from listviews.telling import Telling
from listviews.values import is_rows
from listviews.values import is_value

from samples import any_values
from samples import assert_raises
from samples import rows_of

ANN, BOB, EVE = ("ann", {"age": 3}), ("bob", {"age": 5}), (("group", (1,)), 7)


class TellingTest(unittest.TestCase):
    def test_all_is_defined_in_this_file_and_class(self):
        self.assertEqual("listviews.telling", Telling.__module__)
        self.assertIs(Telling, module.Telling)
        for name in "change differing between __eq__ __bool__ __len__".split():
            self.assertIn(name, vars(Telling))

    def test_change_and_differing(self):
        change = Change(3, [2, "zoe", 0])
        for rows in ([], ["ann"], ("bob", ("group", (1,))), rows_of(80)):
            telling = Telling(change=change, differing=rows)
            self.assertIs(change, telling.change)
            self.assertEqual(list(rows), telling.differing())

    def test_sizes(self):
        for change in (Change.same(3), Change(3, [2, "zoe", 0]), Change(80, [])):
            for count in (0, 1, 5, 80):
                telling = Telling(change, rows_of(count))
                self.assertEqual(len(change) + count, len(telling))
                self.assertIs(len(change) + count > 0, bool(telling))

    def test_equality(self):
        changes = [Change.same(2), Change.same(3), Change(2, [1, 0]), Change(2, [1])]
        rows = [[], ["ann"], ["bob"], ["ann", "bob"], ["bob", "ann"]]
        made = list(itertools.product(range(len(changes)), range(len(rows))))
        for (one, two), (three, four) in itertools.product(made, repeat=2):
            first, second = Telling(changes[one], rows[two]), Telling(changes[three], tuple(rows[four]))
            self.assertIs((one, two) == (three, four), first == second)
            self.assertIs((one, two) != (three, four), first != second)
        for value in any_values():
            self.assertIs(False, Telling(Change.same(0), []) == value)
            self.assertIs(False, Telling(Change(2, [1, 0]), []) == value)

    def test_wrong_arguments(self):
        for value in any_values():
            if not isinstance(value, Change):
                assert_raises(self, InvalidChange, "value", value, Telling, value, None)
        wrong = [rows_of(79) + ["za", "zb"], ["a", "a"], ["A"], {"a": 1}] + any_values()
        for value in wrong:
            if not is_rows(value):
                assert_raises(self, InvalidRows, "value", value, Telling, Change.same(1), value)

    def test_copies(self):
        rows = ["ann"]
        telling = Telling(Change.same(1), rows)
        rows.append("bob")
        telling.differing().clear()
        self.assertEqual((["ann"], 1), (telling.differing(), len(telling)))


class BetweenTest(unittest.TestCase):
    def check(self, old, new):
        """Compare a telling with the words of the document."""
        telling = Telling.between(old, new)
        rows, values = [row for row, _ in old], dict(old)
        self.assertEqual(Change.between(rows, [row for row, _ in new]), telling.change)
        self.assertEqual([row for row, value in new if row in values and values[row] != value], telling.differing())
        self.assertEqual(list(old) != list(new), bool(telling))
        self.assertEqual(telling, Telling.between(old=tuple(old), new=tuple(new)))
        # Each row of both states stays.
        self.assertEqual([rows.index(row) for row, _ in new if row in rows], telling.change.kept())

    def test_small_states(self):
        values = ({"age": 1}, {"age": 2}, 1)
        rows = ("ann", ("group", (1,)), "bob")
        states = []
        for count in range(4):
            for some in itertools.permutations(rows, count):
                states += [list(zip(some, given)) for given in itertools.product(values[:2], repeat=count)]
        for old, new in itertools.product(states[::2], states[1::3]):
            self.check(old, new)

    def test_drawn_states(self):
        for seed in range(150):
            chooser = random.Random(seed)
            source = rows_of(80)
            old = [(row, chooser.randint(0, 2)) for row in chooser.sample(source, chooser.randint(0, 80))]
            new = [(row, chooser.randint(0, 2)) for row in chooser.sample(source, chooser.randint(0, 80))]
            self.check(old, new)
            self.check(old, [(row, value if chooser.random() < 0.8 else {"age": 1}) for row, value in old])

    def test_equal_states_have_an_empty_telling(self):
        for state in ([], [ANN], [ANN, EVE, BOB]):
            telling = Telling.between(state, [(row, dict(value) if isinstance(value, dict) else value) for row, value in state])
            self.assertEqual((False, 0, []), (bool(telling), len(telling), telling.differing()))
            self.assertEqual(Telling(Change.same(len(state)), []), telling)
        self.assertFalse(Telling.between([("ann", {"a": 1, "b": 2})], [("ann", {"b": 2, "a": 1})]))

    def test_differing_rows_are_in_the_order_of_the_second_state(self):
        old = [("ann", 1), ("bob", 1), ("cy", 1), ("dan", 1)]
        new = [("dan", 2), ("cy", 1), ("eve", 5), ("bob", {"age": 1}), ("ann", -1)]
        self.assertEqual(["dan", "bob", "ann"], Telling.between(old, new).differing())

    def test_joined_changes_and_values_that_changed_back(self):
        first = [("ann", 1), ("bob", 1)]
        second = [("bob", 2), ("cy", 1)]
        third = [("ann", 1), ("bob", 1)]
        steps = [Telling.between(first, second), Telling.between(second, third)]
        self.assertEqual([["bob"], ["bob"]], [one.differing() for one in steps])
        self.assertFalse(Telling.between(first, third))
        joined = steps[0].change + steps[1].change
        self.assertEqual(["ann", "bob"], joined(["ann", "bob"]))
        self.assertEqual(["ann", 1], joined.after())

    def test_integers_of_any_size(self):
        for number in (0, -(10**30) + 1, 10**30 - 1, 10000):
            self.assertEqual(["ann"], Telling.between([("ann", number)], [("ann", {"age": 1})]).differing())
            self.assertFalse(Telling.between([(("group", (1,)), number)], [(("group", (1,)), number)]))

    def test_eighty_rows_and_eighty_one(self):
        rows = rows_of(80)
        self.assertEqual(80, len(Telling.between([], [(row, 1) for row in rows])))
        state = [(row, 1) for row in [*rows, "zz"]]
        assert_raises(self, InvalidRows, "value", state, Telling.between, state, None)
        assert_raises(self, InvalidRows, "value", state, Telling.between, [], state)

    def test_wrong_states(self):
        wrong = [[["ann", 1]], [("ann",)], [("ann", 1, 1)], [ANN, ANN], [("ann", 1), ("ann", 2)], [None], [("A", 1)], {"ann": 1}]
        wrong += [[("ann", {"age": True})], [("ann", {})], [(("group", (True,)), 1)], ["ab"], [("group", (1,))]]
        wrong += [value for value in any_values() if not isinstance(value, (list, tuple)) or value]
        for value in any_values():
            is_integer = isinstance(value, int) and not isinstance(value, bool)
            if not is_integer and not is_value(value):
                wrong.append([("ann", value)])
                wrong.append([BOB, ("ann", value)])
        for value in wrong:
            assert_raises(self, InvalidRows, "value", value, Telling.between, value, None)
            assert_raises(self, InvalidRows, "value", value, Telling.between, [ANN], value)


if __name__ == "__main__":
    unittest.main()
