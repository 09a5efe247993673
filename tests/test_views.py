"""[93], [94]: making and closing views, their rows and values, and all looks at them."""

import itertools
import random
import unittest

from listviews import views as module
from listviews.board import Board
from listviews.changes import Change
from listviews.conditions import Between
from listviews.conditions import Named
from listviews.errors import Held
from listviews.errors import InUse
from listviews.errors import InvalidFunction
from listviews.errors import InvalidInteger
from listviews.errors import InvalidName
from listviews.errors import NameTaken
from listviews.errors import NotPlain
from listviews.errors import TooMany
from listviews.errors import UnknownRow
from listviews.errors import UnknownView
from listviews.orders import By
from listviews.orders import Plus
from listviews.values import is_integer
from listviews.values import is_name
from listviews.values import is_row
from listviews.views import View

from models import KINDS
from models import NAMES
from models import defined_state
from models import draw_setting
from models import draw_value
from samples import any_values
from samples import assert_raises
from worlds import make_view

ANN, BOB, EVE = ("ann", {"age": 3}), ("bob", {"age": 5}), ("eve", {"age": 5})
LISTED = """name on kind turns is_closed setting change_setting rows pairs worth place told __len__ __getitem__
    __contains__ __iter__ need_idle follow"""
SETTINGS = {
    "filtered": Between("age", low=4),
    "ordered": By("-age"),
    "unique": By("age"),
    "grouped": By("age"),
    "mapped": Plus("age", 1),
    "window": (1, 2),
}
WITH_FUNCTIONS = [kind for kind in KINDS if kind != "window"]


def some():
    return Board([ANN, BOB, EVE])


def made(board, kind, name, on=None):
    return make_view(board, name, kind, on, SETTINGS[kind])


def deep():
    """A board with eight views, four of them on one another; the last one shows headers."""
    board = some()
    parents = [None, "va", "vb", "vc", None, None, None, None]
    for name, on, kind in zip("abcdefgh", parents, ["ordered", "mapped", "filtered", "grouped"] + ["window"] * 4):
        made(board, kind, "v" + name, on)
    return board


class MakingTest(unittest.TestCase):
    def test_all_is_defined_in_this_file_and_class(self):
        self.assertEqual("listviews.views", module.View.__module__)
        for name in LISTED.split():
            self.assertIn(name, vars(View))

    def test_what_a_view_was_made_of(self):
        board = some()
        for at, kind in enumerate(KINDS):
            view = made(board, kind, "v" + kind[:3])
            self.assertIsInstance(view, View)
            self.assertIs(view, board.view_of("v" + kind[:3]))
            self.assertEqual(("v" + kind[:3], None, kind), (view.name, view.on, view.kind))
            self.assertEqual((SETTINGS[kind], 0, False, None), (view.setting, view.turns, view.is_closed, view.told()))
            self.assertEqual(at + 1, len(board.views()))
        self.assertEqual(["vfil", "vord", "vuni", "vwin", "vgro", "vmap"], board.views())
        self.assertEqual((0, 0), (board.undo_count, board.redo_count))
        self.assertEqual("vfil", made(board, "ordered", "other", on="vfil").on)

    def test_arguments_by_name(self):
        board = some()
        board.filtered(name="a", where=SETTINGS["filtered"], on=None)
        board.ordered(name="b", by=SETTINGS["ordered"], on="a")
        board.unique(name="c", by=SETTINGS["unique"], on="b")
        board.mapped(name="d", function=SETTINGS["mapped"])
        board.grouped(name="e", by=SETTINGS["grouped"], on="d")
        board.window(name="f", start=1, count=2, on="e")
        self.assertEqual(["a", "b", "c", "d", "e", "f"], board.views())
        self.assertEqual((1, 2), board.view_of(name="f").setting)

    def test_names(self):
        for value in any_values():
            board = some()
            for kind in KINDS:
                if not is_name(value):
                    call = (lambda: board.window(value, -1, None, on=5)) if kind == "window" else (lambda: getattr(board, kind)(value, None, on=5))
                    assert_raises(self, InvalidName, "value", value, call)
            self.assertEqual([], board.views())

    def test_functions(self):
        for kind in WITH_FUNCTIONS:
            for value in any_values() + [True, 5, "by", [], (1, 2), {}]:
                board = some()
                if value is None or isinstance(value, (int, str, list, tuple, dict)):
                    assert_raises(self, InvalidFunction, "value", value, getattr(board, kind), "one", value, on="none")
                    self.assertEqual([], board.views())

    def test_windows(self):
        board = some()
        for value in [-1, 81, True, False] + any_values():
            if not is_integer(value, 0, 80):
                assert_raises(self, InvalidInteger, "value", value, board.window, "one", value, None, on="none")
                assert_raises(self, InvalidInteger, "value", value, board.window, "one", 0, value, on="none")
        for at, (start, count) in enumerate([(0, 0), (80, 80), (0, 80), (3, 1)]):
            self.assertEqual((start, count), board.window("v" + "abcd"[at], start, count).setting)

    def test_anything_that_can_be_called_is_a_function(self):
        board = Board()
        for at, value in enumerate([By("age"), Between("age"), Plus("age", 1), Change.same(1), board.window("w", 0, 1), draw_value]):
            self.assertIs(value, board.ordered("v" + "abcdef"[at], value).setting)
            self.assertEqual([], board.view_of("v" + "abcdef"[at]).rows())

    def test_parents(self):
        for value in any_values() + ["one", "", "-"]:
            board = some()
            if value is not None:
                for kind in KINDS:
                    assert_raises(self, UnknownView, "label", value, made, board, kind, "one", value)
        board = some()
        made(board, "ordered", "one")
        board.close("one")
        assert_raises(self, UnknownView, "label", "one", made, board, "window", "two", "one")

    def test_order_of_the_checks(self):
        board = deep()
        board.hold()
        with self.assertRaises(Held):
            made(board, "ordered", "va", "vd")
        board.release()
        name, on = "".join(["v", "a"]), "".join(["v", "d"])
        assert_raises(self, NameTaken, "label", name, made, board, "ordered", name, on)
        assert_raises(self, NotPlain, "label", on, made, board, "ordered", "new", on)
        assert_raises(self, TooMany, "count", 9, made, board, "window", "new", on)
        board.close("vh")
        assert_raises(self, TooMany, "count", 5, made, board, "window", "new", on)
        for kind in WITH_FUNCTIONS:
            assert_raises(self, NotPlain, "label", on, made, board, kind, "new", on)
        self.assertEqual(7, len(board.views()))
        made(board, "window", "new", "vc")
        self.assertEqual(8, len(board.views()))

    def test_eight_views_and_nine(self):
        board = some()
        for letter in "abcdefgh":
            made(board, "ordered", letter)
        assert_raises(self, TooMany, "count", 9, made, board, "ordered", "i")
        board.close("c")
        made(board, "ordered", "i")
        self.assertEqual(list("abdefghi"), board.views())

    def test_depth_four_and_five(self):
        for kinds in itertools.product(["ordered", "window"], ["mapped", "unique"], ["filtered", "window"], ["window", "grouped"]):
            board = some()
            for name, on, kind in zip("abcd", [None, "a", "b", "c"], kinds):
                made(board, kind, name, on)
            assert_raises(self, TooMany, "count", 5, made, board, "window", "e", "d")
            made(board, "window", "e", "c")

    def test_headers_and_what_may_show_them(self):
        board = some()
        made(board, "grouped", "g")
        made(board, "window", "w", "g")
        made(board, "window", "x", "w")
        made(board, "ordered", "o")
        made(board, "window", "p", "o")
        for kind in WITH_FUNCTIONS:
            for on in ("g", "w", "x"):
                assert_raises(self, NotPlain, "label", on, made, board, kind, "new", on)
        for kind, name in zip(WITH_FUNCTIONS[:3], "abc"):
            made(board, kind, name, "p")
        # A window has headers for good, even if none of them shows.
        board.close("x")
        board.view_of("w").setting = (1, 1)
        self.assertEqual(["ann"], board.view_of("w").rows())
        assert_raises(self, NotPlain, "label", "w", made, board, "ordered", "new", "w")

    def test_views_of_one_name(self):
        board = some()
        one = made(board, "ordered", "one")
        board.close("one")
        other = made(board, "grouped", "one")
        self.assertEqual((True, False), (one.is_closed, other.is_closed))
        self.assertIs(other, board.view_of("one"))
        board.remove("ann")
        self.assertEqual((["bob", "eve", "ann"], 3), (one.rows(), len(other)))

    def test_unknown_views(self):
        board = deep()
        for value in any_values() + ["v", "VA", "va "]:
            assert_raises(self, UnknownView, "label", value, board.view_of, value)
            assert_raises(self, UnknownView, "label", value, board.close, value)


class ClosingTest(unittest.TestCase):
    def test_order_of_the_checks(self):
        board = deep()
        board.hold()
        assert_raises(self, UnknownView, "label", "none", board.close, "none")
        with self.assertRaises(Held):
            board.close("va")
        board.move("ann", 1)
        board.release()
        with self.assertRaises(Held):
            board.close("va")
        board.tell()
        for name in ("va", "vb", "vc"):
            assert_raises(self, InUse, "label", name, board.close, name)
        self.assertEqual(8, len(board.views()))
        for name in ("vd", "vc", "vb", "va"):
            self.assertIsNone(board.close(name=name))
        self.assertEqual(["ve", "vf", "vg", "vh"], board.views())

    def test_a_closed_view_keeps_what_it_had(self):
        board = some()
        view = made(board, "grouped", "one")
        board["ann"] = {"age": 5}
        rows, pairs, told = view.rows(), view.pairs(), view.told()
        board.close("one")
        board.remove("bob")
        board["eve"] = {"age": 9}
        self.assertEqual((rows, pairs, 1, True), (view.rows(), view.pairs(), view.turns, view.is_closed))
        self.assertEqual((told, SETTINGS["grouped"]), (view.told(), view.setting))
        self.assertEqual(("one", None, "grouped", 3), (view.name, view.on, view.kind, view.worth(rows[0])))
        self.assertEqual((4, rows[1], 1, True), (len(view), view[1], view.place(rows[1]), rows[1] in view))


class LookingTest(unittest.TestCase):
    def test_rows_of_each_kind(self):
        three, five = ("group", (3,)), ("group", (5,))
        expected = {
            "filtered": [BOB, EVE],
            "ordered": [BOB, EVE, ANN],
            "unique": [ANN, BOB],
            "window": [BOB, EVE],
            "grouped": [(three, 1), ANN, (five, 2), BOB, EVE],
            "mapped": [("ann", {"age": 4}), ("bob", {"age": 6}), ("eve", {"age": 6})],
        }
        for kind in KINDS:
            view = made(some(), kind, "one")
            self.assertEqual(expected[kind], view.pairs())
            rows = [row for row, _ in expected[kind]]
            self.assertEqual((rows, rows, len(rows)), (view.rows(), list(view), len(view)))
            for at, (row, value) in enumerate(expected[kind]):
                self.assertEqual((row, at, value, True), (view[at], view.place(row), view.worth(row), row in view))
            self.assertEqual((rows[0], value), (view[0], view.worth(row=rows[-1])))
        self.assertEqual(1, made(some(), "filtered", "one").place(row="eve"))

    def test_drawn_views_of_views(self):
        for seed in range(150):
            chooser = random.Random(seed)
            pairs = [(name, draw_value(chooser)) for name in chooser.sample(NAMES, chooser.randint(0, 40))]
            board = Board(pairs)
            on, state = None, pairs
            for name in ("one", "two", "three", "four"):
                kind = chooser.choice(KINDS) if on is None or board.view_of(on).kind != "grouped" else "window"
                if on is not None and any(isinstance(row, tuple) for row in board.view_of(on)):
                    kind = "window"
                if name == "four":
                    kind = "window"
                setting = draw_setting(chooser, kind)
                view = make_view(board, name, kind, on, setting)
                state = defined_state(kind, setting, state)
                self.assertEqual(state, view.pairs())
                if kind == "grouped":
                    on = name
                    view = board.window("last", 1, 5, on=on)
                    self.assertEqual(state[1:6], view.pairs())
                    break
                on = name

    def test_answers_that_are_integers_or_tuples(self):
        board = some()
        answers = {"ann": 2, "bob": (2,), "eve": (1, 1)}
        view = board.grouped("one", lambda key, value: answers[key])
        two, one = ("group", (2,)), ("group", (1, 1))
        self.assertEqual([one, "eve", two, "ann", "bob"], view.rows())
        self.assertEqual([1, 2], [view.worth(one), view.worth(two)])
        self.assertEqual(["ann", "eve"], board.unique("two", lambda key, value: answers[key]).rows())

    def test_forty_groups(self):
        board = Board([(name, {"age": at}) for at, name in enumerate(NAMES[:40])])
        view = board.grouped("one", By("age"))
        self.assertEqual((80, 80), (len(view), len(board.window("two", 0, 80, on="one"))))
        self.assertEqual(NAMES[39], view[79])

    def test_unknown_rows(self):
        board = some()
        views = [made(board, kind, kind[:3]) for kind in KINDS]
        group = [("group", 3), ("group", (3, 0)), ("group", [3]), ["group", (3,)], ("group", (4,)), (3,)]
        for view in views:
            for value in any_values() + group + ["an", 0, 1]:
                if value not in view.rows():
                    assert_raises(self, UnknownRow, "row", value, view.worth, value)
                    assert_raises(self, UnknownRow, "row", value, view.place, value)
                    self.assertIs(False, value in view)

    def test_true_and_false_are_no_integers(self):
        board = Board([("ann", {"age": 1}), ("bob", {"age": 0})])
        view = board.grouped("one", By("age"))
        self.assertEqual([("group", (0,)), "bob", ("group", (1,)), "ann"], view.rows())
        for value in (("group", (True,)), ("group", (False,))):
            self.assertIs(False, is_row(value))
            self.assertIs(False, value in view)
            assert_raises(self, UnknownRow, "row", value, view.worth, value)
            assert_raises(self, UnknownRow, "row", value, view.place, value)
        for value in (True, False):
            assert_raises(self, InvalidInteger, "value", value, lambda: view[value])

    def test_indices(self):
        view = made(some(), "grouped", "one")
        for value in [-1, 5, True] + any_values():
            if not is_integer(value, 0, 4):
                assert_raises(self, InvalidInteger, "value", value, lambda: view[value])
        for value in (0, -1, None):
            assert_raises(self, InvalidInteger, "value", value, lambda: Board().window("one", 0, 5)[value])

    def test_views_are_equal_to_themselves_alone(self):
        board = some()
        one, other = made(board, "ordered", "one"), made(board, "ordered", "other")
        self.assertEqual([True, False, False], [one == one, one == other, one == one.rows()])
        self.assertEqual(2, len({one: 1, other: 2}))

    def test_copies(self):
        board = some()
        for kind in KINDS:
            view = made(board, kind, kind[:3])
            pairs = view.pairs()
            view.rows().clear()
            view.pairs().clear()
            for row, value in view.pairs():
                if isinstance(value, dict):
                    value.clear()
                    view.worth(row).clear()
            self.assertEqual(pairs, view.pairs())
        self.assertEqual([ANN, BOB, EVE], board.pairs())
        board.views().clear()
        self.assertEqual(6, len(board.views()))

    def test_iteration_over_rows_that_change(self):
        board = some()
        view = made(board, "ordered", "one")
        for row in view:
            board.remove(row)
        self.assertEqual([], view.rows())

    def test_values_are_those_of_the_parent(self):
        board = some()
        board.mapped("one", lambda key, value: {"size": value["age"] - 3})
        board.grouped("two", By("size"), on="one")
        board.window("three", 0, 2, on="two")
        board.filtered("four", Named("bob"), on="one")
        zero = ("group", (0,))
        self.assertEqual([(zero, 1), ("ann", {"size": 0})], board.view_of("three").pairs())
        board["bob"] = {"age": 3}
        self.assertEqual([(zero, 2), ("ann", {"size": 0})], board.view_of("three").pairs())
        self.assertEqual([("bob", {"size": 0})], board.view_of("four").pairs())


if __name__ == "__main__":
    unittest.main()
