"""[95], [97]: who is asked, what is refused, and settings."""

import unittest

from listviews.board import Board
from listviews.conditions import Between
from listviews.errors import InvalidAnswer
from listviews.errors import InvalidFunction
from listviews.errors import InvalidInteger
from listviews.errors import InvalidValue
from listviews.errors import Refused
from listviews.errors import UnknownView
from listviews.orders import By
from listviews.values import is_answer
from listviews.values import is_integer
from listviews.values import is_value

from models import WRONG_ANSWERS
from models import WRONG_NUMBERS
from models import Desk
from models import Failure
from samples import any_values
from samples import assert_raises
from worlds import fingerprint

ANN, BOB, EVE = ("ann", {"age": 3}), ("bob", {"age": 5}), ("eve", {"age": 5})
WITH_FUNCTIONS = ("filtered", "ordered", "unique", "grouped", "mapped")
RIGHT = {
    "filtered": lambda key, value: value.get("age", 0) > 3,
    "mapped": lambda key, value: {"age": value.get("age", 0) // 2},
}


def right(kind):
    return RIGHT.get(kind, lambda key, value: value.get("age", 0))


class World:
    """A board, and a desk that notes whom it asks."""

    def __init__(self):
        self.board = Board([ANN, BOB, EVE])
        self.desk = Desk()

    def make(self, kind, name, on=None):
        return getattr(self.board, kind)(name, self.desk.function(name, right(kind)), on=on)

    def asked(self):
        """What was asked since the last look, as tuples of a view's name and a key."""
        return [(label, key) for label, key, _ in self.desk.cleared()]


class AskedTest(unittest.TestCase):
    def test_a_new_view_asks_for_all_rows_in_the_order_of_the_parent(self):
        for kind in WITH_FUNCTIONS:
            world = World()
            world.make(kind, "one")
            self.assertEqual([("one", *pair) for pair in (ANN, BOB, EVE)], world.desk.cleared())
        world = World()
        world.board.ordered("up", By("-age"))
        world.board.mapped("plus", lambda key, value: {"age": value["age"] + 1}, on="up")
        world.make("filtered", "one", on="plus")
        expected = [("one", "bob", {"age": 6}), ("one", "eve", {"age": 6}), ("one", "ann", {"age": 4})]
        self.assertEqual(expected, world.desk.cleared())

    def test_one_call_for_each_new_row_and_each_other_value(self):
        for kind in WITH_FUNCTIONS:
            world = World()
            world.make(kind, "one")
            world.asked()
            board = world.board
            board.add("cy", {"age": 1}, index=0)
            self.assertEqual([("one", "cy")], world.asked())
            board["bob"] = {"age": 6}
            self.assertEqual([("one", "bob", {"age": 6})], world.desk.cleared())
            board["bob"] = {"age": 6}
            board.move("bob", 0)
            board.remove("ann")
            board += []
            self.assertEqual([], world.asked())
            board += [ANN, ("dan", {"x": 1})]
            self.assertEqual([("one", "ann"), ("one", "dan")], world.asked())

    def test_the_order_is_that_of_the_parent_then(self):
        world = World()
        world.make("ordered", "one")
        world.board.window("last", 1, 2)
        world.make("mapped", "two", on="last")
        world.asked()
        with world.board.held():
            for key in ("ann", "bob", "eve"):
                world.board[key] = {"age": 9}
            world.board.move("ann", 2)
            world.board.move("bob", 1)
        world.board.tell()
        self.assertEqual([("one", "eve"), ("one", "bob"), ("one", "ann"), ("two", "bob"), ("two", "ann")], world.asked())

    def test_a_row_that_goes_and_comes_back_in_one_turn(self):
        world = World()
        world.make("ordered", "one")
        world.asked()
        with world.board.held():
            world.board.remove("ann")
            world.board["bob"] = {"age": 1}
            world.board["bob"] = {"age": 5}
            world.board.add("ann", {"age": 3})
            world.board.remove("eve")
            world.board.add("eve", {"age": 6})
        world.board.tell()
        self.assertEqual([("one", "eve")], world.asked())

    def test_a_row_that_comes_back_in_another_turn(self):
        world = World()
        world.make("ordered", "one")
        world.asked()
        world.board.remove("ann")
        world.board.add(*ANN)
        self.assertEqual([("one", "ann")], world.asked())

    def test_views_are_asked_in_the_order_in_which_they_were_made(self):
        world = World()
        for name, kind, on in (("zoe", "mapped", None), ("ada", "ordered", "zoe"), ("mia", "filtered", None)):
            world.make(kind, name, on)
        self.assertEqual(9, len(world.asked()))
        world.board.add("cy", {"age": 4})
        self.assertEqual([("zoe", "cy"), ("ada", "cy"), ("mia", "cy")], world.asked())

    def test_what_the_parent_does_not_show_is_not_asked_for(self):
        world = World()
        world.make("filtered", "old")
        world.make("ordered", "one", on="old")
        world.board.window("top", 0, 1, on="one")
        world.make("mapped", "two", on="top")
        self.assertEqual(3 + 2 + 1, len(world.asked()))
        world.board["ann"] = {"age": 2}
        self.assertEqual([("old", "ann")], world.asked())
        world.board["ann"] = {"age": 4}
        # Now it is the first one, and so new in the window.
        self.assertEqual([("old", "ann"), ("one", "ann"), ("two", "ann")], world.asked())

    def test_a_mapped_value_that_stays_is_not_asked_for_again(self):
        world = World()
        world.make("mapped", "half")
        world.make("grouped", "one", on="half")
        world.asked()
        world.board["bob"] = {"age": 4}
        self.assertEqual([("half", "bob")], world.asked())
        world.board["bob"] = {"age": 6}
        self.assertEqual([("half", "bob"), ("one", "bob")], world.asked())

    def test_one_function_of_several_views(self):
        world = World()
        function = world.desk.function("both", lambda key, value: 1)
        world.board.ordered("one", function)
        world.board.unique("two", function, on="one")
        self.assertEqual(6, len(world.asked()))
        world.board["eve"] = {"age": 9}
        self.assertEqual([("both", "eve")] * 2, world.asked())

    def test_closed_views_ask_for_nothing(self):
        world = World()
        world.make("ordered", "one")
        world.board.close("one")
        world.asked()
        world.board["eve"] = {"age": 9}
        self.assertEqual([], world.asked())

    def test_a_function_gets_copies(self):
        board = Board([ANN])
        seen = []

        def spoiling(key, value):
            seen.append(value)
            value["age"] = 100
            value["more"] = 1
            return value

        view = board.mapped("one", spoiling)
        board.mapped("two", spoiling, on="one")
        seen[0].clear()
        seen[1]["age"] = 7
        board.move("ann", 0)
        self.assertEqual([ANN], board.pairs())
        self.assertEqual([("ann", {"age": 100, "more": 1})], view.pairs())
        self.assertEqual(view.pairs(), board.view_of("two").pairs())

    def test_dicts_that_are_changed_behind_what_a_function_returned(self):
        shared = {"age": 1}
        board = Board([ANN, BOB])
        view = board.mapped("one", lambda key, value: shared)
        low = board.filtered("low", Between("age", high=1), on="one")
        shared["age"] = 2
        self.assertEqual([("ann", {"age": 1}), ("bob", {"age": 1})], view.pairs())
        board["bob"] = {"age": 6}
        self.assertEqual([("ann", {"age": 1}), ("bob", {"age": 2})], view.pairs())
        self.assertEqual(["ann"], low.rows())
        self.assertEqual((1, ["bob"]), (view.turns, view.told().differing()))


class RefusedTest(unittest.TestCase):
    def wrong_answers(self, kind):
        for value in [*WRONG_ANSWERS.get(kind, WRONG_NUMBERS), *any_values()]:
            is_wrong = {"filtered": not isinstance(value, bool), "mapped": not is_value(value)}
            if is_wrong.get(kind, not is_answer(value)):
                yield value

    def check(self, world, kind, what, call, asked):
        """Check that a call fails as the function does at its last question, and changes nothing."""
        was = fingerprint(world.board)
        world.asked()
        world.desk.fault = (len(asked) - 1, what)
        with self.assertRaises((Refused, Failure)) as caught:
            call()
        error = caught.exception
        self.assertEqual(asked, world.asked())
        self.assertEqual(was, fingerprint(world.board))
        if isinstance(what, Failure):
            self.assertIs(what, error)
            return
        self.assertEqual((Refused, *asked[-1]), (error.__class__, error.label, error.row))
        self.assertIs(InvalidValue if kind == "mapped" else InvalidAnswer, error.__cause__.__class__)
        self.assertIs(what, error.__cause__.value)

    def test_wrong_answers_in_an_operation(self):
        for kind in WITH_FUNCTIONS:
            for what in [*self.wrong_answers(kind), Failure()]:
                world = World()
                view = world.make(kind, "one")
                call = lambda: world.board.add("cy", {"age": 7}, index=1)
                self.check(world, kind, what, call, [("one", "cy")])
                call()
                self.assertEqual([("one", "cy")], world.asked())
                self.assertEqual((1, 1), (view.turns, world.board.undo_count))

    def test_wrong_answers_in_a_new_view(self):
        for kind in WITH_FUNCTIONS:
            for what in [*self.wrong_answers(kind), Failure()]:
                for count in (1, 2, 3):
                    world = World()
                    call = lambda: world.make(kind, "one")
                    asked = [("one", key) for key in ("ann", "bob", "eve")][:count]
                    self.check(world, kind, what, call, asked)
                    assert_raises(self, UnknownView, "label", "one", world.board.view_of, "one")
                    self.assertEqual("one", call().name)
                    self.assertEqual(3, len(world.asked()))

    def test_wrong_answers_elsewhere(self):
        """In tell, in a setting, in undo and in redo, at the second of two views."""
        for kind in WITH_FUNCTIONS:
            for what in [next(self.wrong_answers(kind)), Failure()]:
                world = World()
                world.make("ordered", "all")
                view = world.make(kind, "one", on="all")
                board = world.board
                with board.held():
                    board["ann"] = {"age": 4}
                    board["eve"] = {"age": 9}
                both = [("all", "ann"), ("all", "eve"), ("one", "ann"), ("one", "eve")]
                for at in (2, 3):
                    self.check(world, kind, what, board.tell, both[: at + 1])
                self.assertEqual((2, 0), (board.pending, view.turns))
                # An operation behind the hold is not done either.
                more = [*both[:2], ("all", "cy"), both[2], ("one", "cy"), both[3]]
                self.check(world, kind, what, lambda: board.add("cy", {"age": 7}), more)
                board.tell()
                self.assertEqual(both, world.asked())
                back = [("all", "ann"), ("all", "eve"), ("one", "ann"), ("one", "eve")]
                self.check(world, kind, what, board.undo, back)
                board.undo()
                self.check(world, kind, what, board.redo, both)
                board.redo()
                rows = [("one", key) for key in board.view_of("all").rows()]
                again = world.desk.function("one", right(kind))
                for at in (1, 2, 3):
                    self.check(world, kind, what, lambda: view.change_setting(again), rows[:at])
                view.setting = again
                self.check(world, kind, what, board.undo, rows)
                board.undo()
                self.check(world, kind, what, board.redo, rows[:2])
                board.redo()
                self.assertIs(again, view.setting)

    def test_answers_of_a_turn_that_failed_are_forgotten(self):
        world = World()
        world.make("ordered", "one")
        world.make("ordered", "two")
        world.asked()
        world.desk.fault = (2, None)
        with world.board.held():
            world.board["ann"] = {"age": 7}
            world.board["bob"] = {"age": 8}
        with self.assertRaises(Refused):
            world.board.tell()
        self.assertEqual([("one", "ann"), ("one", "bob"), ("two", "ann")], world.asked())
        world.board.drop()
        world.board["ann"] = {"age": 7}
        self.assertEqual([("one", "ann"), ("two", "ann")], world.asked())

    def test_exceptions_of_every_kind(self):
        for error in (ValueError("x"), KeyError("ann"), Refused("one", "ann"), KeyboardInterrupt(), StopIteration()):
            def failing(key, value):
                raise error

            board = Board([ANN])
            with self.assertRaises(error.__class__) as caught:
                board.ordered("one", failing)
            self.assertIs(error, caught.exception)
            self.assertEqual([], board.views())
            # The board is not taken for busy behind this.
            board.ordered("one", By("age"))

    def test_the_name_and_the_row_of_the_refusal(self):
        name = "".join(["o", "ne"])
        board = Board([ANN])
        with self.assertRaises(Refused) as caught:
            board.filtered(name, lambda key, value: 1)
        self.assertIs(name, caught.exception.label)
        self.assertEqual("ann", caught.exception.row)

    def test_functions_that_take_other_arguments(self):
        board = Board([ANN])
        for function in (lambda key: 1, len, dict, board):
            with self.assertRaises(TypeError):
                board.ordered("one", function)
        self.assertEqual([], board.views())


class SettingsTest(unittest.TestCase):
    def test_another_setting(self):
        board = Board([ANN, BOB, EVE])
        view, top = board.filtered("old", Between("age", low=4)), board.window("top", 0, 1, on="old")
        low = Between("age", high=3)
        view.setting = low
        self.assertIs(low, view.setting)
        self.assertEqual((["ann"], ["ann"]), (view.rows(), top.rows()))
        self.assertIsNone(view.change_setting(value=Between("age")))
        top.change_setting((1, 80))
        self.assertEqual(((1, 80), ["bob", "eve"], 3), (top.setting, top.rows(), board.undo_count))

    def test_all_rows_are_asked_for(self):
        for kind in WITH_FUNCTIONS:
            world = World()
            view = world.make(kind, "one")
            world.make("ordered", "two")
            everyone = [("one", key) for key in ("ann", "bob", "eve")]
            world.asked()
            view.setting = view.setting
            self.assertEqual(everyone, world.asked())
            with world.board.held():
                world.board["ann"] = {"age": 7}
                view.setting = By("never")
                view.setting = world.desk.function("one", right(kind))
                view.setting = world.desk.function("last", right(kind))
                world.board.remove("bob")
            world.board.tell()
            self.assertEqual([("last", "ann"), ("last", "eve"), ("two", "ann")], world.asked())
            world.board.undo()
            self.assertEqual(everyone + [("two", "ann"), ("two", "bob")], world.asked())
            world.board.redo()
            self.assertEqual([("last", "ann"), ("last", "eve"), ("two", "ann")], world.asked())

    def test_a_setting_that_was_dropped_was_not_set(self):
        world = World()
        view = world.make("ordered", "one")
        old = view.setting
        world.asked()
        world.board.hold()
        view.setting = By("age")
        world.board.drop()
        world.board.release()
        world.board["ann"] = {"age": 4}
        self.assertIs(old, view.setting)
        self.assertEqual([("one", "ann")], world.asked())

    def test_wrong_settings(self):
        board = Board([ANN])
        view, top = board.ordered("one", By("age")), board.window("top", 0, 1)
        was = fingerprint(board)
        for call in (lambda view, value: view.change_setting(value), put_setting):
            for value in any_values():
                if value is None or isinstance(value, (int, str, list, tuple, dict)):
                    assert_raises(self, InvalidFunction, "value", value, call, view, value)
                bounds = isinstance(value, tuple) and len(value) == 2 and all(is_integer(one, 0, 80) for one in value)
                if not bounds:
                    assert_raises(self, InvalidInteger, "value", value, call, top, value)
            for value in [(0, 81), (81, 0), (-1, 0), (0, True), (False, 0), [0, 1], (0,), (0, 1, 2), (0, None), By("age"), 5]:
                assert_raises(self, InvalidInteger, "value", value, call, top, value)
            for value in [(0, 80), (80, 0)]:
                board.hold()
                call(top, value)
                board.release()
                board.drop()
        self.assertEqual(was[:-1], fingerprint(board)[:-1])
        self.assertEqual((0, 0), (board.pending, board.undo_count))

    def test_closed_views_have_their_setting_for_good(self):
        board = Board([ANN])
        name = "".join(["o", "ne"])
        view, top = board.ordered(name, By("age")), board.window("top", 0, 1)
        board.close("one")
        board.close("top")
        for call in (lambda view, value: view.change_setting(value), put_setting):
            assert_raises(self, InvalidFunction, "value", None, call, view, None)
            assert_raises(self, InvalidInteger, "value", 5, call, top, 5)
            assert_raises(self, UnknownView, "label", name, call, view, By("size"))
            assert_raises(self, UnknownView, "label", "top", call, top, (0, 2))
        # A view of the same name is another one.
        board.ordered("one", By("x"))
        assert_raises(self, UnknownView, "label", name, put_setting, view, By("size"))
        self.assertEqual((By("age"), (0, 1), By("x")), (view.setting, top.setting, board.view_of("one").setting))


def put_setting(view, value):
    view.setting = value


if __name__ == "__main__":
    unittest.main()
