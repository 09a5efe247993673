"""[92]: turns, holds, and what the list, the settings and the views show meanwhile."""

import unittest

from listviews.board import Board
from listviews.conditions import Between
from listviews.errors import Held
from listviews.errors import InvalidInteger
from listviews.errors import KeyTaken
from listviews.errors import NotHeld
from listviews.errors import UnknownKey
from listviews.errors import UnknownView
from listviews.orders import By

from models import Failure
from samples import assert_raises

ANN, BOB, EVE = ("ann", {"age": 3}), ("bob", {"age": 5}), ("eve", {"age": 4})


def some():
    board = Board([ANN, BOB])
    return board, board.ordered("old", By("-age"))


class HoldsTest(unittest.TestCase):
    def check(self, board, pending, is_held):
        self.assertEqual((pending, is_held), (board.pending, board.is_held))
        self.assertIs(is_held, board.is_held)

    def test_an_operation_is_a_turn(self):
        board, view = some()
        board.add(*EVE)
        self.assertEqual((["bob", "eve", "ann"], 1, 1), (view.rows(), view.turns, board.undo_count))
        self.check(board, 0, False)

    def test_operations_in_a_block_are_pending(self):
        board, view = some()
        with board.held():
            self.check(board, 0, True)
            board.add(*EVE)
            board.remove("bob")
            board["ann"] = {"age": 9}
            self.check(board, 3, True)
            self.assertEqual([("ann", {"age": 9}), EVE], board.pairs())
            self.assertEqual([BOB, ANN], view.pairs())
            self.assertEqual((0, None, None), (view.turns, view.told(), board.told()))
        self.check(board, 3, False)
        self.assertEqual(["bob", "ann"], view.rows())
        board.tell()
        self.check(board, 0, False)
        self.assertEqual((["ann", "eve"], 1, 1), (view.rows(), view.turns, board.undo_count))
        self.assertEqual([0, "eve"], board.told().change.after())
        self.assertEqual(["ann"], board.told().differing())

    def test_operations_are_checked_against_the_list_of_now(self):
        board, _ = some()
        with board.held():
            board.add(*EVE)
            assert_raises(self, KeyTaken, "key", "eve", board.add, *EVE)
            board.move("eve", 2)
            assert_raises(self, InvalidInteger, "value", 3, board.move, "eve", 3)
            board.remove("bob")
            assert_raises(self, UnknownKey, "key", "bob", board.remove, "bob")
            self.check(board, 3, True)
        board.tell()
        self.assertEqual([ANN, EVE], board.pairs())

    def test_nested_blocks(self):
        board, view = some()
        with board.held():
            board.remove("ann")
            with board.held():
                board.add(*EVE)
                with board.held():
                    self.check(board, 2, True)
            self.check(board, 2, True)
            board.remove("bob")
        self.check(board, 3, False)
        board.tell()
        self.assertEqual(["eve"], view.rows())

    def test_held_alone_holds_nothing(self):
        board, view = some()
        block = board.held()
        self.check(board, 0, False)
        board.add(*EVE)
        self.assertEqual(1, view.turns)
        with block:
            self.check(board, 0, True)
        self.check(board, 0, False)
        self.assertNotEqual(id(block), id(board.held()))

    def test_hold_and_release(self):
        board, view = some()
        assert_not_held(self, board)
        board.hold()
        board.hold()
        board.remove("ann")
        self.check(board, 1, True)
        self.assertIsNone(board.release())
        self.check(board, 1, True)
        board.remove("bob")
        board.release()
        self.check(board, 2, False)
        self.assertEqual(["bob", "ann"], view.rows())
        assert_not_held(self, board)
        board.tell()
        self.assertEqual([], view.rows())

    def test_a_block_ends_the_holds_begun_in_it_and_keeps_those_before_it(self):
        board, _ = some()
        with board.held():
            board.hold()
            board.hold()
        self.check(board, 0, False)
        board.hold()
        with board.held():
            board.release()
            self.check(board, 0, True)
            board.release()
            self.check(board, 0, False)
            assert_not_held(self, board)
            board.remove("ann")
            self.assertEqual(1, board.undo_count)
        self.check(board, 0, True)
        board.release()
        self.check(board, 0, False)
        with board.held():
            with board.held():
                board.release()
                board.release()
                board.hold()
            self.check(board, 0, True)
            board.release()
            self.check(board, 0, False)
        self.check(board, 0, False)

    def test_a_release_in_a_block_ends_its_hold(self):
        board, view = some()
        with board.held():
            board.remove("ann")
            board.release()
            self.assertEqual(["bob", "ann"], view.rows())
            board.remove("bob")
            self.assertEqual(([], 0), (view.rows(), board.pending))
        self.check(board, 0, False)

    def test_an_exception_in_a_block(self):
        board, view = some()
        error = Failure()
        with self.assertRaises(Failure) as caught:
            with board.held():
                board.hold()
                board.remove("ann")
                raise error
        self.assertIs(error, caught.exception)
        self.check(board, 1, False)
        self.assertEqual((["bob"], ["bob", "ann"]), (board.names(), view.rows()))
        with self.assertRaises(UnknownKey):
            with board.held():
                with board.held():
                    board.remove("ann")
        self.check(board, 1, False)
        board.tell()
        self.assertEqual(["bob"], view.rows())

    def test_an_operation_behind_a_hold_is_one_turn_with_the_pending_ones(self):
        board, view = some()
        with board.held():
            board.remove("ann")
            view.setting = By("age")
        board.add(*EVE)
        self.check(board, 0, False)
        self.assertEqual((["eve", "bob"], 1, 1), (view.rows(), view.turns, board.undo_count))
        board.undo()
        self.assertEqual(([ANN, BOB], ["bob", "ann"]), (board.pairs(), view.rows()))

    def test_tell(self):
        board, view = some()
        self.assertIsNone(board.tell())
        self.assertEqual((0, 0), (view.turns, board.undo_count))
        board.hold()
        for _ in range(2):
            with self.assertRaises(Held):
                board.tell()
            board.remove("ann") if "ann" in board else None
        self.assertEqual((1, ["bob", "ann"]), (board.pending, view.rows()))
        board.release()
        self.assertIsNone(board.tell())
        board.tell()
        self.assertEqual((1, 1, ["bob"]), (view.turns, board.undo_count, view.rows()))

    def test_drop(self):
        board, view = some()
        old = view.setting
        board.drop()
        with board.held():
            board.remove("ann")
            board.add(*EVE)
            view.setting = By("age")
            view.setting = By("size")
            self.assertIsNone(board.drop())
            self.check(board, 0, True)
            self.assertEqual([ANN, BOB], board.pairs())
            self.assertIs(old, view.setting)
            board.remove("bob")
        self.check(board, 1, False)
        board.drop()
        self.check(board, 0, False)
        board.tell()
        self.assertEqual(([ANN, BOB], 0, 0, None), (board.pairs(), view.turns, board.undo_count, board.told()))
        self.assertEqual(["bob", "ann"], view.rows())

    def test_drop_leads_back_to_the_last_turn(self):
        board, view = some()
        board.add(*EVE)
        with board.held():
            board["eve"] = {"age": 9}
        board.drop()
        self.assertEqual(([ANN, BOB, EVE], 1), (board.pairs(), board.undo_count))

    def test_settings_meanwhile(self):
        board = Board([ANN, BOB])
        view, top = board.filtered("old", Between("age", low=4)), board.window("top", 0, 1)
        new = Between("age", high=3)
        with board.held():
            view.setting = new
            top.setting = (1, 5)
            self.assertIs(new, view.setting)
            self.assertEqual(((1, 5), ["bob"], ["ann"]), (top.setting, view.rows(), top.rows()))
        board.tell()
        self.assertEqual((["ann"], ["bob"]), (view.rows(), top.rows()))

    def test_what_cannot_be_done_meanwhile(self):
        for begin in (lambda board: board.hold(), lambda board: hold_for(board)):
            board, view = some()
            board.remove("ann")
            board.undo()
            begin(board)
            # Behind a block the operations alone are in the way.
            for call in (board.undo, board.redo, lambda: board.close("old"), lambda: board.window("top", 0, 1)):
                with self.assertRaises(Held):
                    call()
            self.assertEqual((["old"], 0, 1), (board.views(), board.undo_count, board.redo_count))
            assert_raises(self, UnknownView, "label", "top", board.view_of, "top")

    def test_operations_that_change_nothing_are_pending_too(self):
        board, view = some()
        with board.held():
            board.move("ann", 0)
            board += []
            board["ann"] = {"age": 3}
            view.setting = By("-age")
        self.assertEqual(4, board.pending)
        board.tell()
        self.assertEqual((0, 0, None, 1), (board.pending, view.turns, view.told(), board.undo_count))


def hold_for(board):
    """Leave an operation pending, with no hold."""
    with board.held():
        board.move("ann", 0)


def assert_not_held(case, board):
    with case.assertRaises(NotHeld):
        board.release()


if __name__ == "__main__":
    unittest.main()
