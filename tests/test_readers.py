"""[101], [102]: readers of views, which look when they like."""

import random
import unittest

from listviews import readers as module
from listviews.board import Board
from listviews.changes import Change
from listviews.conditions import Between
from listviews.errors import InvalidView
from listviews.errors import UnknownView
from listviews.orders import By
from listviews.orders import Plus
from listviews.readers import Reader
from listviews.telling import Telling

from models import NAMES
from models import draw_setting
from models import draw_value
from samples import any_values
from samples import assert_raises
from worlds import make_view

ANN, BOB, EVE = ("ann", {"age": 3}), ("bob", {"age": 5}), ("eve", {"age": 5})


def some():
    board = Board([ANN, BOB, EVE])
    return board, board.filtered("old", Between("age", low=4))


class ReaderTest(unittest.TestCase):
    def test_all_is_defined_in_this_file_and_class(self):
        self.assertEqual("listviews.readers", module.Reader.__module__)
        for name in "view behind seen take".split():
            self.assertIn(name, vars(Reader))

    def test_new_readers(self):
        board, view = some()
        board["bob"] = {"age": 6}
        reader = Reader(view=view)
        self.assertIs(view, reader.view)
        self.assertEqual((0, view.pairs()), (reader.behind, reader.seen()))
        self.assertFalse(reader.take())

    def test_wrong_views(self):
        board, view = some()
        for value in [*any_values(), board, Reader(view)]:
            assert_raises(self, InvalidView, "value", value, Reader, value)
        name = "".join(["o", "ne"])
        closed = board.ordered(name, By("age"))
        board.close("one")
        assert_raises(self, UnknownView, "label", name, Reader, closed)
        board.ordered("one", By("age"))
        assert_raises(self, UnknownView, "label", name, Reader, closed)

    def test_behind_counts_the_turns_in_which_the_view_changed(self):
        board, view = some()
        reader = Reader(view)
        board["ann"] = {"age": 2}
        self.assertEqual(0, reader.behind)
        board["bob"] = {"age": 6}
        board.move("ann", 2)
        board.move("bob", 1)
        self.assertEqual(2, reader.behind)
        reader.take()
        self.assertEqual(0, reader.behind)
        board.undo()
        self.assertEqual(1, reader.behind)

    def test_take_leads_from_the_state_seen_to_that_of_now(self):
        board, view = some()
        reader, old = Reader(view), view.pairs()
        board["ann"] = {"age": 9}
        board.remove("eve")
        self.assertEqual(old, reader.seen())
        telling = reader.take()
        self.assertEqual(Telling.between(old, view.pairs()), telling)
        self.assertEqual((["ann", 0], []), (telling.change.after(), telling.differing()))
        self.assertEqual((view.pairs(), 0), (reader.seen(), reader.behind))
        self.assertEqual(Telling(Change.same(2), []), reader.take())

    def test_rows_that_come_back_stay_and_values_that_change_back_do_not_differ(self):
        board, view = some()
        reader = Reader(view)
        board["bob"] = {"age": 1}
        board["eve"] = {"age": 7}
        board["bob"] = {"age": 8}
        board["eve"] = {"age": 5}
        self.assertEqual(4, reader.behind)
        telling = reader.take()
        self.assertEqual(([0, 1], ["bob"]), (telling.change.after(), telling.differing()))
        board.remove("bob")
        board.add("bob", {"age": 8}, index=1)
        self.assertEqual((2, False), (reader.behind, bool(reader.take())))

    def test_several_readers_look_at_different_times(self):
        board, view = some()
        one, other = Reader(view), Reader(view)
        board["ann"] = {"age": 9}
        one.take()
        board.remove("eve")
        late = Reader(view)
        self.assertEqual([1, 2, 0], [reader.behind for reader in (one, other, late)])
        # From ann, bob, eve; from bob, eve; from ann, bob.
        self.assertEqual([[0, 1], ["ann", 0], [0, 1]], [reader.take().change.after() for reader in (one, other, late)])
        self.assertEqual([0, 0, 0], [reader.behind for reader in (one, other, late)])

    def test_pending_and_dropped_operations(self):
        board, view = some()
        reader = Reader(view)
        with board.held():
            board.remove("bob")
            self.assertEqual((0, False), (reader.behind, bool(reader.take())))
        self.assertFalse(reader.take())
        board.drop()
        board.tell()
        self.assertEqual((0, False), (reader.behind, bool(reader.take())))
        with board.held():
            board.remove("bob")
        board.tell()
        self.assertEqual((1, [1]), (reader.behind, reader.take().change.after()))

    def test_a_view_that_is_closed_later(self):
        board, view = some()
        reader = Reader(view)
        board.remove("bob")
        board.close("old")
        board.remove("eve")
        board.filtered("old", Between("age"))
        self.assertEqual((1, [1]), (reader.behind, reader.take().change.after()))
        self.assertEqual((0, [EVE], False), (reader.behind, reader.seen(), bool(reader.take())))

    def test_a_reader_made_within_a_function(self):
        board, view = some()
        readers = []

        def reading(key, value):
            readers.append(Reader(view))
            return 1

        board.ordered("one", reading)
        board["bob"] = {"age": 1}
        self.assertEqual((1, [BOB, EVE]), (readers[3].behind, readers[3].seen()))
        self.assertEqual([1], readers[3].take().change.after())

    def test_copies(self):
        board, view = some()
        board.mapped("plus", Plus("age", 1), on="old")
        for reader in (Reader(view), Reader(board.view_of("plus"))):
            expected = reader.seen()
            reader.seen()[0][1].clear()
            reader.seen().clear()
            self.assertEqual(expected, reader.seen())
            self.assertFalse(reader.take())

    def test_readers_are_equal_to_themselves_alone(self):
        _, view = some()
        reader = Reader(view)
        self.assertEqual([True, False], [reader == reader, reader == Reader(view)])

    def test_never_more_steps_than_all_tellings_joined(self):
        """And the same rows stay as in all of them joined, if none of them was missing in between."""
        kept_alike = 0
        for seed in range(150):
            chooser = random.Random(seed)
            board = Board([(name, draw_value(chooser)) for name in NAMES[:8]])
            on = None
            for name in ("one", "two"):
                kind = chooser.choice(["filtered", "ordered", "unique", "mapped", "window"])
                view = make_view(board, name, kind, on, draw_setting(chooser, kind))
                on = name
            view = make_view(board, "three", "grouped", on, By("age"))
            reader, joined, turns, missing = Reader(view), Change.same(len(view)), 0, {}
            start, steps = view.rows(), 0
            for _ in range(chooser.randint(0, 8)):
                before = view.turns
                board[chooser.choice(board.names())] = draw_value(chooser)
                if view.turns > before:
                    joined = joined + view.told().change
                    steps += len(view.told().change)
                    turns += 1
                    missing.update((row, True) for row in start if row not in view)
            self.assertEqual(turns, reader.behind)
            change = reader.take().change
            self.assertLessEqual(len(change), steps)
            self.assertEqual(joined(start), change(start))
            came_back = [row for row in missing if row in view]
            self.assertEqual(change.kept() == joined.kept(), came_back == [])
            kept_alike += came_back == []
        self.assertTrue(0 < kept_alike < 150)


if __name__ == "__main__":
    unittest.main()
