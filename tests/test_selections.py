"""[111] to [114]: selections."""

import itertools
import random
import unittest

from listviews import selections as module
from listviews.board import Board
from listviews.conditions import Between
from listviews.errors import Busy
from listviews.errors import InvalidRows
from listviews.errors import InvalidView
from listviews.errors import TooMany
from listviews.errors import UnknownRow
from listviews.errors import UnknownView
from listviews.orders import By
from listviews.selections import Anchor
from listviews.selections import Selection

from followers import SIGNS
from followers import SelectionModel
from followers import changed
from followers import draw_change
from models import NAMES
from models import draw_value
from samples import any_values
from samples import assert_raises

ANN, BOB, CY, DAN = ("ann", {"age": 3}), ("bob", {"age": 2}), ("cy", {"age": 4}), ("dan", {"age": 1})
THREE = ("group", (3,))
LISTED = """view multiple focus focus_on rows ranges __len__ __contains__ __ior__ __isub__ __ixor__ everything clear select
    extend"""


def some(multiple=True):
    board = Board([ANN, BOB, CY, DAN])
    view = board.window("all", 0, 80)
    return board, view, Selection(view, multiple=multiple)


def grouped():
    board = Board([ANN, BOB, CY, DAN])
    view = board.grouped("ages", By("age"))
    return board, view, Selection(view)


def put_focus(selection, value):
    selection.focus = value


class MakingTest(unittest.TestCase):
    def test_all_is_defined_in_this_file_and_class(self):
        for name in ("Selection", "Anchor"):
            self.assertEqual("listviews.selections", getattr(module, name).__module__)
        for name in LISTED.split():
            self.assertIn(name, vars(Selection))

    def test_new_selections(self):
        board, view, _ = some()
        for selection, multiple in ((Selection(view), True), (Selection(view=view, multiple=False), False)):
            self.assertIs(view, selection.view)
            self.assertIs(multiple, selection.multiple)
            self.assertEqual(([], [], 0, None), (selection.rows(), selection.ranges(), len(selection), selection.focus))

    def test_wrong_views(self):
        board, view, selection = some()
        for value in [*any_values(), board, selection]:
            assert_raises(self, InvalidView, "value", value, Selection, value)
        name = "".join(["o", "ne"])
        closed = board.ordered(name, By("age"))
        board.close("one")
        board.ordered("one", By("age"))
        assert_raises(self, UnknownView, "label", name, Selection, closed, multiple=False)

    def test_selections_are_equal_to_themselves_alone(self):
        _, view, selection = some()
        self.assertEqual([True, False], [selection == selection, selection == Selection(view)])


class RowsTest(unittest.TestCase):
    def test_signs(self):
        rows = ["ann", "bob", "cy"]
        lists = [list(some) for count in range(4) for some in itertools.permutations(rows, count)]
        for one, other in itertools.product(lists, lists):
            for sign, keep in SIGNS.items():
                _, view, selection = some()
                selection.focus = "dan"
                changed(selection, "|=", one)
                changed(selection, sign, tuple(other))
                expected = getattr(set(one), keep)(set(other))
                self.assertEqual([row for row in view.rows() if row in expected], selection.rows())
                self.assertEqual((len(expected), "dan"), (len(selection), selection.focus))
                self.assertEqual([row in expected for row in rows], [row in selection for row in rows])

    def test_a_row_that_occurs_several_times_counts_once(self):
        for sign, expected in zip(SIGNS, (["ann", "bob", "cy"], ["ann"], ["ann", "cy"])):
            _, _, selection = some()
            selection |= ["ann", "bob"]
            changed(selection, sign, ["bob", "cy", "bob", "cy", "bob", "cy"])
            self.assertEqual(expected, selection.rows())
        _, _, selection = some(multiple=False)
        selection |= ["ann"] * 80
        self.assertEqual(["ann"], selection.rows())
        selection ^= ["ann", "bob"] * 2
        self.assertEqual(["bob"], selection.rows())

    def test_eighty_items_and_eighty_one(self):
        for sign in SIGNS:
            _, _, selection = some()
            for value in (["ann"] * 81, ("zoe",) * 81, [None] * 110):
                assert_raises(self, InvalidRows, "value", value, changed, selection, sign, value)
            changed(selection, sign, ["ann"] * 80)

    def test_wrong_rows(self):
        for sign in SIGNS:
            for multiple in (True, False):
                _, view, selection = some(multiple)
                selection |= ["cy"]
                for value in [*any_values(), view, selection, {"ann": 1}]:
                    if not isinstance(value, (list, tuple)):
                        assert_raises(self, InvalidRows, "value", value, changed, selection, sign, value)
                for item in any_values() + ["zoe", THREE]:
                    if item != "ann":
                        assert_raises(self, UnknownRow, "row", item, changed, selection, sign, ["ann", "bob", item, "eve"])
                        assert_raises(self, UnknownRow, "row", item, changed, selection, sign, (item,))
                self.assertEqual((["cy"], None), (selection.rows(), selection.focus))

    def test_headers(self):
        board, view, selection = grouped()
        selection |= [THREE, "ann", ("group", (1,))]
        self.assertEqual([("group", (1,)), THREE, "ann"], selection.rows())
        self.assertEqual([(0, 1), (4, 6)], selection.ranges())
        for value in (("group", (True,)), ("group", 3), ["group", (3,)], ("group", (9,))):
            self.assertIs(False, value in selection)
            assert_raises(self, UnknownRow, "row", value, changed, selection, "-=", [value])
            assert_raises(self, UnknownRow, "row", value, selection.select, value)
            assert_raises(self, UnknownRow, "row", value, put_focus, selection, value)
        self.assertIn(THREE, selection)
        selection.select(("group", (2,)))
        selection.extend(THREE)
        self.assertEqual([("group", (2,)), "bob", THREE], selection.rows())

    def test_any_value_in_a_selection(self):
        _, _, selection = some()
        selection |= ["bob"]
        for value in any_values() + ["ann", "b"]:
            self.assertIs(False, value in selection)
        self.assertIs(True, "bob" in selection)

    def test_everything_and_clear(self):
        _, view, selection = some()
        selection.focus = "bob"
        self.assertIsNone(selection.everything())
        self.assertEqual((view.rows(), [(0, 4)], "bob"), (selection.rows(), selection.ranges(), selection.focus))
        self.assertIsNone(selection.clear())
        self.assertEqual(([], "bob"), (selection.rows(), selection.focus))

    def test_one_row_at_most(self):
        board, view, selection = some(multiple=False)
        assert_raises(self, TooMany, "count", 4, selection.everything)
        assert_raises(self, TooMany, "count", 2, changed, selection, "|=", ["ann", "bob"])
        assert_raises(self, TooMany, "count", 3, changed, selection, "^=", ["ann", "bob", "ann", "cy"])
        selection |= ["bob"]
        assert_raises(self, TooMany, "count", 2, changed, selection, "|=", ["ann"])
        assert_raises(self, TooMany, "count", 3, changed, selection, "|=", ["ann", "bob", "cy"])
        assert_raises(self, TooMany, "count", 2, changed, selection, "^=", ["ann"])
        self.assertEqual(["bob"], selection.rows())
        selection ^= ["bob", "ann"]
        selection -= ["bob", "cy"]
        selection |= ["ann"]
        self.assertEqual((["ann"], None), (selection.rows(), selection.focus))
        for key in ("bob", "cy", "dan"):
            board.remove(key)
        selection.clear()
        selection.everything()
        self.assertEqual(["ann"], selection.rows())
        board.remove("ann")
        selection.everything()
        self.assertEqual([], selection.rows())

    def test_select(self):
        for multiple in (True, False):
            _, _, selection = some(multiple)
            self.assertIsNone(selection.select(row="bob"))
            self.assertEqual((["bob"], "bob"), (selection.rows(), selection.focus))
            selection.select("ann")
            self.assertEqual((["ann"], "ann"), (selection.rows(), selection.focus))
            for value in any_values() + ["zoe", None]:
                if value != "ann":
                    assert_raises(self, UnknownRow, "row", value, selection.select, value)
                    assert_raises(self, UnknownRow, "row", value, selection.extend, value)
            self.assertEqual((["ann"], "ann"), (selection.rows(), selection.focus))

    def test_extend(self):
        rows = ["ann", "bob", "cy", "dan"]
        for one, other in itertools.product(range(4), repeat=2):
            _, _, selection = some()
            selection |= ["ann", "dan"]
            selection.focus = rows[one]
            self.assertIsNone(selection.extend(row=rows[other]))
            expected = rows[min(one, other) : max(one, other) + 1]
            self.assertEqual((expected, rows[one]), (selection.rows(), selection.focus))
            self.assertEqual([(min(one, other), max(one, other) + 1)], selection.ranges())

    def test_extend_without_a_focus_or_with_one_row_at_most(self):
        _, _, selection = some()
        selection |= ["ann"]
        selection.extend("cy")
        self.assertEqual((["cy"], "cy"), (selection.rows(), selection.focus))
        _, _, selection = some(multiple=False)
        selection.select("ann")
        selection.extend("cy")
        self.assertEqual((["cy"], "cy"), (selection.rows(), selection.focus))

    def test_focus(self):
        for call in (put_focus, lambda selection, value: selection.focus_on(value)):
            _, _, selection = some()
            selection |= ["ann"]
            for value in ("bob", "ann", None, "cy"):
                call(selection, value)
                self.assertEqual((value, ["ann"]), (selection.focus, selection.rows()))
            for value in any_values() + ["zoe"]:
                if value not in (None, "ann"):
                    assert_raises(self, UnknownRow, "row", value, call, selection, value)
            self.assertEqual("cy", selection.focus)
        self.assertIsNone(selection.focus_on(value="ann"))

    def test_the_fewest_ranges(self):
        board = Board([(name, {"age": 1}) for name in NAMES[:7]])
        view = board.window("all", 0, 80)
        for number in range(128):
            chosen = [bool(number >> at & 1) for at in range(7)]
            selection = Selection(view)
            selection |= [name for name, one in zip(NAMES, chosen) if one][::-1]
            ranges = selection.ranges()
            self.assertEqual([at for at in range(7) if chosen[at]], [at for one in ranges for at in range(*one)])
            self.assertEqual(sum(one and not (at and chosen[at - 1]) for at, one in enumerate(chosen)), len(ranges))
            self.assertTrue(all(isinstance(one, tuple) and one[0] < one[1] for one in ranges))

    def test_copies(self):
        _, _, selection = some()
        rows = ["ann", "bob"]
        selection |= rows
        rows.clear()
        selection.rows().clear()
        selection.ranges().clear()
        self.assertEqual((["ann", "bob"], [(0, 2)]), (selection.rows(), selection.ranges()))
        selection.everything()
        selection.rows().clear()
        self.assertEqual(4, len(selection))


class TurnsTest(unittest.TestCase):
    def test_rows_that_go_and_come(self):
        board, view, selection = some()
        selection |= ["ann", "cy"]
        board.remove("ann")
        board.add("eve", {"age": 1}, index=0)
        self.assertEqual((["cy"], [(2, 3)]), (selection.rows(), selection.ranges()))
        board.add(*ANN)
        board.undo()
        board.undo()
        board.undo()
        self.assertEqual((["ann", "bob", "cy", "dan"], ["cy"]), (view.rows(), selection.rows()))

    def test_rows_are_in_the_order_of_the_view(self):
        board, view, selection = some()
        selection |= ["ann", "cy", "dan"]
        board.move("ann", 3)
        self.assertEqual((["cy", "dan", "ann"], [(1, 4)]), (selection.rows(), selection.ranges()))

    def test_where_the_focus_goes(self):
        for before, gone, after in (
            ("bob", ["bob"], "cy"),
            ("bob", ["bob", "cy"], "dan"),
            ("bob", ["bob", "cy", "dan"], "ann"),
            ("dan", ["dan"], "cy"),
            ("dan", ["dan", "cy", "ann"], "bob"),
            ("ann", ["ann", "bob", "cy", "dan"], None),
            ("bob", ["ann", "cy"], "bob"),
            (None, ["ann", "cy"], None),
        ):
            board, _, selection = some()
            selection.focus = before
            with board.held():
                for key in gone:
                    board.remove(key)
                board.add("eve", {"age": 1}, index=0)
            self.assertEqual(before, selection.focus)
            board.tell()
            self.assertEqual((after, []), (selection.focus, selection.rows()))

    def test_the_order_ahead_of_the_turn_counts(self):
        board, view, selection = some()
        selection.focus = "bob"
        with board.held():
            board.remove("bob")
            board.move("cy", 0)
            board.add("eve", {"age": 1}, index=1)
        board.tell()
        self.assertEqual((["cy", "eve", "ann", "dan"], "cy"), (view.rows(), selection.focus))
        # Several turns are not the same as one: the focus stays where it went.
        board.remove("cy")
        self.assertEqual("eve", selection.focus)

    def test_headers_go_and_come(self):
        board, view, selection = grouped()
        selection.select(THREE)
        selection |= ["ann"]
        board["ann"] = {"age": 4}
        four = ("group", (4,))
        self.assertEqual(([four, "ann", "cy"], ["ann"]), (view.rows()[-3:], selection.rows()))
        self.assertEqual("ann", selection.focus)
        selection.select(four)
        board.remove("cy")
        self.assertEqual(([four], four), (selection.rows(), selection.focus))

    def test_turns_that_are_refused_or_pending(self):
        board, view, selection = some()
        board.ordered("one", lambda key, value: value["age"])
        selection.select("ann")
        with self.assertRaises(KeyError):
            with board.held():
                board.remove("ann")
            board.add("eve", {"size": 1})
        self.assertEqual((["ann"], "ann"), (selection.rows(), selection.focus))
        selection.extend("bob")
        board.drop()
        board.tell()
        self.assertEqual(["ann", "bob"], selection.rows())

    def test_values_alone(self):
        board, _, selection = some()
        selection.select("ann")
        board["ann"] = {"age": 77}
        self.assertEqual((["ann"], "ann"), (selection.rows(), selection.focus))

    def test_closed_views(self):
        board, view, selection = some()
        selection.select("ann")
        board.close("all")
        board.remove("ann")
        board.remove("cy")
        self.assertEqual((["ann"], "ann"), (selection.rows(), selection.focus))
        selection.extend("cy")
        self.assertEqual([(0, 3)], selection.ranges())
        selection -= ["bob"]
        selection ^= ["dan"]
        self.assertEqual((["ann", "cy", "dan"], [(0, 1), (2, 4)]), (selection.rows(), selection.ranges()))
        selection.everything()
        assert_raises(self, UnknownRow, "row", "eve", selection.select, "eve")
        other = board.window("all", 0, 1)
        board.remove("bob")
        self.assertEqual((["ann", "bob", "cy", "dan"], ["dan"]), (selection.rows(), other.rows()))

    def test_drawn_histories(self):
        for seed in range(60):
            chooser = random.Random(seed)
            board = Board([(name, draw_value(chooser)) for name in NAMES[:8]])
            view = board.grouped("ages", By("age", "x")) if seed % 2 else board.filtered("ages", Between("age", low=1))
            multiple = chooser.random() < 0.8
            selection, model = Selection(view, multiple=multiple), SelectionModel(view.rows(), multiple)
            for _ in range(40):
                before = view.rows()
                if chooser.random() < 0.4:
                    with board.held():
                        for _ in range(chooser.randint(1, 3)):
                            board[chooser.choice(board.names())] = draw_value(chooser)
                            board.move(chooser.choice(board.names()), chooser.randrange(len(board)))
                    board.tell()
                    if before != view.rows():
                        model.passed(before, view.rows())
                elif before:
                    draw_change(self, chooser, selection, model)
                self.assertEqual(model.rows(), selection.rows())
                self.assertEqual(model.ranges(), selection.ranges())
                self.assertEqual((model.focus, len(model.selected)), (selection.focus, len(selection)))


class BusyTest(unittest.TestCase):
    def test_busy_ahead_of_all_else(self):
        board, view, selection = some(multiple=False)
        closed = board.window("gone", 0, 2)
        late = Selection(closed, multiple=False)
        board.close("gone")
        several = Selection(view)
        for one in (selection, several):
            one.select("ann")
        raised = []

        def asking(key, value):
            for one in (selection, late, several):
                calls = [lambda: one.select(None), lambda: one.extend(None), one.clear, one.everything]
                calls += [lambda: one.focus_on("none"), lambda: put_focus(one, "none"), lambda: one.select("ann")]
                calls += [lambda sign=sign: changed(one, sign, None) for sign in SIGNS]
                for call in calls:
                    with self.assertRaises(Busy):
                        call()
                    raised.append(call)
            seen = (selection.rows(), selection.ranges(), len(selection), "ann" in selection, selection.focus)
            self.assertEqual((["ann"], [(0, 1)], 1, True, "ann"), seen)
            return 1

        board.ordered("one", asking)
        board.add("eve", {"age": 1}, index=0)
        self.assertEqual(5 * 30, len(raised))
        self.assertEqual([(1, 2)], selection.ranges())
        self.assertEqual((0, None), (len(late), late.focus))
        # Behind all this nothing is busy.
        selection.clear()

    def test_what_is_made_within_a_function(self):
        board, view, _ = some()
        made = []

        def making(key, value):
            made.append((Selection(view), Anchor(view, 2)))
            return 1

        board.ordered("one", making)
        board.add("eve", {"age": 1}, index=0)
        self.assertEqual([3] * 5, [anchor.gap for _, anchor in made])
        made[4][0].select("eve")


if __name__ == "__main__":
    unittest.main()
