"""[115]: anchors."""

import itertools
import random
import unittest

from listviews.board import Board
from listviews.conditions import Between
from listviews.errors import InvalidInteger
from listviews.errors import InvalidName
from listviews.errors import InvalidView
from listviews.errors import UnknownView
from listviews.orders import By
from listviews.selections import Anchor
from listviews.values import is_integer

from followers import AnchorModel
from models import NAMES
from models import draw_value
from samples import any_values
from samples import assert_raises

ROWS = ["ann", "bob", "cy", "dan"]


def some():
    board = Board([(name, {"age": 1}) for name in ROWS])
    return board, board.window("all", 0, 80)


class AnchorTest(unittest.TestCase):
    def test_all_is_defined_in_this_class(self):
        for name in "view gap gravity".split():
            self.assertIn(name, vars(Anchor))

    def test_new_anchors(self):
        _, view = some()
        for gap in range(5):
            for anchor, gravity in (
                (Anchor(view, gap), "left"),
                (Anchor(view=view, gap=gap, gravity="left"), "left"),
                (Anchor(view, gap, gravity="right"), "right"),
            ):
                self.assertIs(view, anchor.view)
                self.assertEqual((gap, gravity), (anchor.gap, anchor.gravity))
        self.assertEqual([True, False], [anchor == anchor, anchor == Anchor(view, 4)])

    def test_wrong_arguments(self):
        board, view = some()
        for value in [*any_values(), board, Anchor(view, 0)]:
            assert_raises(self, InvalidView, "value", value, Anchor, value, -1, gravity=None)
        closed = board.window("gone", 0, 2)
        board.close("gone")
        assert_raises(self, UnknownView, "label", "gone", Anchor, closed, -1, gravity=None)
        for value in [-1, 5, True, False] + any_values():
            if not is_integer(value, 0, 4):
                assert_raises(self, InvalidInteger, "value", value, Anchor, view, value, gravity=None)
        for value in any_values() + ["Left", "up", "", ("left",), ["right"]]:
            assert_raises(self, InvalidName, "value", value, Anchor, view, 4, gravity=value)
        empty = Board().window("all", 0, 5)
        self.assertEqual(0, Anchor(empty, 0).gap)
        assert_raises(self, InvalidInteger, "value", 1, Anchor, empty, 1)

    def test_rows_that_come_at_the_anchor(self):
        board, view = some()
        left, right = Anchor(view, 2), Anchor(view, 2, gravity="right")
        board.add("eve", {"age": 1}, index=2)
        self.assertEqual((2, 3), (left.gap, right.gap))
        board.add("fay", {"age": 1}, index=3)
        self.assertEqual((2, 4), (left.gap, right.gap))
        board.undo()
        board.undo()
        self.assertEqual((2, 2), (left.gap, right.gap))

    def test_at_both_ends(self):
        board, view = some()
        anchors = [Anchor(view, gap, gravity=gravity) for gap in (0, 4) for gravity in ("left", "right")]
        board.add("eve", {"age": 1}, index=0)
        board.add("fay", {"age": 1})
        self.assertEqual([0, 1, 5, 6], [anchor.gap for anchor in anchors])
        with board.held():
            for key in board.names():
                board.remove(key)
            board += [("gus", {"age": 1}), ("hal", {"age": 1})]
        board.tell()
        self.assertEqual([0, 2, 0, 2], [anchor.gap for anchor in anchors])

    def test_all_small_turns(self):
        """Each gap and gravity, against each other list of some of the rows and a new one."""
        lists = [list(rows) for count in range(4) for rows in itertools.permutations(["ann", "bob", "cy", "eve"], count)]
        for after in lists:
            board, view = Board([(name, {"age": 1}) for name in ROWS[:3]]), None
            view = board.window("all", 0, 80)
            made = [(Anchor(view, gap, gravity=side), AnchorModel(gap, side)) for gap in range(4) for side in ("left", "right")]
            with board.held():
                for key in board.names():
                    board.remove(key)
                board += [(key, {"age": 1}) for key in after]
                self.assertEqual([model.gap for _, model in made], [anchor.gap for anchor, _ in made])
            board.tell()
            for anchor, model in made:
                if after != ROWS[:3]:
                    model.passed(ROWS[:3], after)
                self.assertEqual((model.gap, model.gravity), (anchor.gap, anchor.gravity))

    def test_moves_of_the_rows_beside(self):
        board, view = some()
        left, right = Anchor(view, 2), Anchor(view, 2, gravity="right")
        board.move("bob", 0)
        self.assertEqual((1, 2), (left.gap, right.gap))
        board.move("cy", 3)
        self.assertEqual((1, 3), (left.gap, right.gap))

    def test_closed_views_refused_turns_and_holds(self):
        board, view = some()
        board.filtered("old", lambda key, value: value["age"] > 0)
        anchor = Anchor(view, 3)
        with board.held():
            board.remove("ann")
        self.assertEqual(3, anchor.gap)
        with self.assertRaises(KeyError):
            board.add("eve", {"size": 1})
        self.assertEqual(3, anchor.gap)
        board.drop()
        board.close("all")
        board.remove("ann")
        board.window("all", 0, 1)
        board.remove("bob")
        self.assertEqual((3, ROWS), (anchor.gap, anchor.view.rows()))

    def test_drawn_histories(self):
        for seed in range(60):
            chooser = random.Random(seed)
            board = Board([(name, draw_value(chooser)) for name in NAMES[:8]])
            view = board.grouped("ages", By("age", "x")) if seed % 2 else board.filtered("ages", Between("age", low=1))
            made = []
            for _ in range(30):
                gap, side = chooser.randint(0, len(view)), chooser.choice(["left", "right"])
                made = made[-6:] + [(Anchor(view, gap, gravity=side), AnchorModel(gap, side))]
                before = view.rows()
                with board.held():
                    for _ in range(chooser.randint(1, 3)):
                        board[chooser.choice(board.names())] = draw_value(chooser)
                        board.move(chooser.choice(board.names()), chooser.randrange(len(board)))
                board.tell()
                for anchor, model in made:
                    if before != view.rows():
                        model.passed(before, view.rows())
                    self.assertEqual(model.gap, anchor.gap)


if __name__ == "__main__":
    unittest.main()
