"""[91]: the list of a board, its operations, and when two boards are equal."""

import itertools
import unittest

from listviews import board as module
from listviews.board import Board
from listviews.conditions import Between
from listviews.errors import InvalidInteger
from listviews.errors import InvalidName
from listviews.errors import InvalidRecords
from listviews.errors import InvalidValue
from listviews.errors import KeyTaken
from listviews.errors import TooMany
from listviews.errors import UnknownKey
from listviews.orders import By
from listviews.orders import Plus
from listviews.records import Records

from samples import any_values
from samples import assert_raises

NAMES = [one + other for one in "abcde" for other in "abcdefghij"]
ANN, BOB, EVE = ("ann", {"age": 7}), ("bob", {"age": 9, "size": 1}), ("eve", {"age": 7})
LISTED = """add remove move __setitem__ __iadd__ names pairs __getitem__ __len__ __contains__ __iter__ __eq__ held hold
    release tell drop pending is_held filtered ordered unique grouped mapped window views view_of close told undo redo
    undo_count redo_count"""


def pairs_of(count):
    return [(name, {"at": at}) for at, name in enumerate(NAMES[:count])]


def some():
    return Board([ANN, BOB, EVE])


def extend(board, pairs):
    board += pairs
    return board


def put(board, key, value):
    board[key] = value


class MakingTest(unittest.TestCase):
    def test_all_is_defined_in_this_file_and_class(self):
        self.assertEqual("listviews.board", module.Board.__module__)
        for name in LISTED.split():
            self.assertIn(name, vars(Board))

    def test_new_boards(self):
        for pairs in ([], pairs_of(1), pairs_of(40), tuple(pairs_of(3))):
            for board in (Board(pairs), Board(Records(pairs)), Board(records=pairs)):
                self.assertEqual(list(pairs), board.pairs())
                self.assertEqual(([], None, 0, False), (board.views(), board.told(), board.pending, board.is_held))
                self.assertEqual((0, 0), (board.undo_count, board.redo_count))
        self.assertEqual([], Board().pairs())

    def test_wrong_records(self):
        for value in any_values():
            if not isinstance(value, (list, tuple, Records)):
                assert_raises(self, InvalidRecords, "value", value, Board, value)
        pairs = pairs_of(41)
        assert_raises(self, InvalidRecords, "value", pairs, Board, pairs)
        for item in (["eve", {"a": 1}], ("eve",), None):
            assert_raises(self, InvalidRecords, "value", item, Board, [ANN, item])
        assert_raises(self, InvalidName, "value", "Eve", Board, [("Eve", None)])
        value = {"age": True}
        assert_raises(self, InvalidValue, "value", value, Board, [ANN, ("ann", value)])
        assert_raises(self, KeyTaken, "key", "ann", Board, [ANN, ANN])


class LookingTest(unittest.TestCase):
    def test_looks(self):
        board = some()
        self.assertEqual(["ann", "bob", "eve"], board.names())
        self.assertEqual([ANN, BOB, EVE], board.pairs())
        self.assertEqual([{"age": 7}, {"age": 9, "size": 1}], [board["ann"], board["bob"]])
        self.assertEqual((3, 0, 40), (len(board), len(Board()), len(Board(pairs_of(40)))))
        self.assertEqual(["ann", "bob", "eve"], [key for key in board])
        self.assertEqual([True, False, False], ["ann" in board, "an" in board, None in board])

    def test_unknown_keys(self):
        for value in any_values() + ["an", ("ann", {"age": 7})]:
            if value != "ann":
                assert_raises(self, UnknownKey, "key", value, lambda: some()[value])
                self.assertIs(False, value in some())

    def test_copies(self):
        value, more = {"age": 1}, {"age": 2}
        pairs = [("ann", value)]
        board = Board(pairs)
        board.add("bob", more)
        added = [("eve", more)]
        board = extend(board, added)
        board["ann"] = more
        for one in (value, more):
            one["spoilt"] = 1
        pairs.clear()
        added.clear()
        board.names().clear()
        board.pairs()[0][1].clear()
        board.pairs().clear()
        board["ann"].clear()
        self.assertEqual([("ann", {"age": 2}), ("bob", {"age": 2}), ("eve", {"age": 2})], board.pairs())

    def test_iteration_over_a_list_that_changes(self):
        board = some()
        for key in board:
            board.remove(key)
        self.assertEqual([], board.names())


class OperationsTest(unittest.TestCase):
    """The operations do what Records does; its own tests show what this is."""

    def check(self, on_board, on_records):
        for count in (0, 1, 3, 39, 40):
            records = Records(pairs_of(count))
            board = Board(records)
            try:
                expected = on_records(records)
            except Exception as error:
                with self.assertRaises(error.__class__) as caught:
                    on_board(board)
                self.assertIs(error.__class__, caught.exception.__class__)
                self.assertEqual(vars(error), vars(caught.exception))
                for field, held in vars(error).items():
                    if field != "count":
                        self.assertIs(held, vars(caught.exception)[field])
                self.assertEqual((records.pairs(), 0, None), (board.pairs(), board.undo_count, board.told()))
            else:
                on_board(board)
                self.assertEqual((expected.pairs(), 1, 0), (board.pairs(), board.undo_count, board.pending))

    def test_add(self):
        value = {"age": 1}
        self.check(lambda board: board.add("zoe", value), lambda records: records.inserted("zoe", value))
        for index in [None, 0, 1, 2, 3, 4, 39, 40, 41, -1, True] + any_values():
            self.check(
                lambda board: board.add(key="zoe", value=value, index=index),
                lambda records: records.inserted("zoe", value, index=index),
            )
        for key in [*any_values(), "aa"]:
            for given in (value, None):
                self.check(lambda board: board.add(key, given), lambda records: records.inserted(key, given))
        for given in any_values():
            self.check(lambda board: board.add("zoe", given), lambda records: records.inserted("zoe", given))

    def test_remove(self):
        for key in [*any_values(), *NAMES[:4], NAMES[39]]:
            self.check(lambda board: board.remove(key), lambda records: records.removed(key))
        self.check(lambda board: board.remove(key="aa"), lambda records: records.removed("aa"))

    def test_move(self):
        for key in [*any_values(), *NAMES[:4], NAMES[39]]:
            for index in (0, 1, 38, 39, 40, -1, None, True):
                self.check(lambda board: board.move(key, index), lambda records: records.moved(key, index))
        self.check(lambda board: board.move(key="aa", index=2), lambda records: records.moved("aa", 2))

    def test_set(self):
        for key in [*any_values(), *NAMES[:4], NAMES[39]]:
            for value in ({"age": 1}, {"at": 0}, {}):
                self.check(lambda board: put(board, key, value), lambda records: records.replaced(key, value))
        for value in any_values():
            self.check(lambda board: put(board, "ab", value), lambda records: records.replaced("ab", value))

    def test_extend(self):
        more = [("zoe", {"a": 1}), ("zed", {"b": 2})]
        for pairs in ([], more, tuple(more), more[:1], [*more, more[0]], [*more, ("aa", {"a": 1})], [("Z", {})], [None]):
            self.check(lambda board: extend(board, pairs), lambda records: records.extended(pairs))
        for pairs in [*any_values(), pairs_of(41), Records()]:
            self.check(lambda board: extend(board, pairs), lambda records: records.extended(pairs))

    def test_extend_gives_the_board_itself(self):
        board = some()
        self.assertIs(board, extend(board, [("zoe", {"a": 1})]))

    def test_order_of_the_checks(self):
        value, wrong = {"age": 1}, {"age": 1000}
        board = Board(pairs_of(40))
        assert_raises(self, InvalidName, "value", "Zoe", board.add, "Zoe", wrong, index=99)
        assert_raises(self, InvalidValue, "value", wrong, board.add, "aa", wrong, index=99)
        assert_raises(self, InvalidInteger, "value", 41, board.add, "aa", value, index=41)
        assert_raises(self, KeyTaken, "key", "aa", board.add, "aa", value, index=40)
        assert_raises(self, TooMany, "count", 41, board.add, "zoe", value)
        assert_raises(self, InvalidInteger, "value", 40, board.move, "zoe", 40)
        assert_raises(self, UnknownKey, "key", "zoe", board.move, "zoe", 39)
        assert_raises(self, InvalidValue, "value", wrong, put, board, "zoe", wrong)
        assert_raises(self, UnknownKey, "key", "zoe", put, board, "zoe", value)
        assert_raises(self, TooMany, "count", 41, extend, board, [("zoe", value)])


def a_function(key, value):
    return (1,)


def another_function(key, value):
    return (1,)


def built(records=(ANN, BOB), views=()):
    board = Board(records)
    for kind, name, on, *setting in views:
        getattr(board, kind)(name, *setting, on=on)
    return board


class EqualityTest(unittest.TestCase):
    def test_one_thing_otherwise_at_a_time(self):
        first = ("ordered", "one", None, By("age"))
        boards = [
            lambda: built(()),
            lambda: built(),
            lambda: built((BOB, ANN)),
            lambda: built((ANN,)),
            lambda: built((ANN, ("bob", {"age": 9}))),
            lambda: built(views=[first]),
            lambda: built(views=[("ordered", "other", None, By("age"))]),
            lambda: built(views=[("unique", "one", None, By("age"))]),
            lambda: built(views=[("grouped", "one", None, By("age"))]),
            lambda: built(views=[("ordered", "one", None, By("size"))]),
            lambda: built(views=[("ordered", "one", None, a_function)]),
            lambda: built(views=[("ordered", "one", None, another_function)]),
            lambda: built(views=[("filtered", "one", None, Between("age"))]),
            lambda: built(views=[("filtered", "one", None, ~~Between("age"))]),
            lambda: built(views=[("mapped", "one", None, Plus("age", 1))]),
            lambda: built(views=[("window", "one", None, 0, 1)]),
            lambda: built(views=[("window", "one", None, 0, 2)]),
            lambda: built(views=[("window", "one", None, 1, 1)]),
            lambda: built(views=[first, ("window", "two", None, 0, 2)]),
            lambda: built(views=[first, ("window", "two", "one", 0, 2)]),
            lambda: built(views=[("window", "two", None, 0, 2), first]),
        ]
        for one, other in itertools.product(range(len(boards)), repeat=2):
            self.assertIs(one == other, boards[one]() == boards[other]())
            self.assertIs(one != other, boards[one]() != boards[other]())

    def test_other_values_are_not_equal(self):
        for value in [*any_values(), Records([ANN]), [ANN]]:
            self.assertIs(False, Board([ANN]) == value)
            self.assertIs(False, value == Board([ANN]))
            self.assertIs(False, Board() == value)

    def test_other_histories(self):
        board = built(views=[("ordered", "one", None, By("age"))])
        other = built((BOB, EVE))
        other.window("gone", 0, 1)
        other.ordered("one", By("size"))
        other.view_of("one").setting = By("age")
        other.add("ann", {"age": 1}, index=0)
        self.assertFalse(board == other)
        other["ann"] = {"age": 7}
        other.remove("eve")
        self.assertFalse(board == other)
        other.move("ann", 1)
        other.undo()
        other.close("gone")
        self.assertTrue(board == other)

    def test_what_is_pending_counts(self):
        board, other = (built(views=[("window", "one", None, 0, 2)]) for _ in range(2))
        other.hold()
        self.assertTrue(board == other)
        other["ann"] = {"age": 8}
        self.assertFalse(board == other)
        board["ann"] = {"age": 8}
        self.assertTrue(board == other)
        other.view_of("one").setting = (0, 1)
        self.assertFalse(board == other)
        board.hold()
        board.view_of("one").setting = (0, 1)
        self.assertTrue(board == other)
        board.drop()
        self.assertFalse(board == other)
        other.drop()
        self.assertFalse(board == other)
        board["ann"] = {"age": 7}
        self.assertTrue(board == other)

    def test_boards_made_of_one_another(self):
        board = some()
        again = Board(board.pairs())
        self.assertTrue(board == again)
        again.remove("ann")
        self.assertEqual(["ann", "bob", "eve"], board.names())


if __name__ == "__main__":
    unittest.main()
