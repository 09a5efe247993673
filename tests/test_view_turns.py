"""[96], [98], [99]: what turns tell, whom they call, what functions see of them, and how they are taken back."""

import unittest

from listviews.board import Board
from listviews.conditions import Between
from listviews.errors import Busy
from listviews.errors import Held
from listviews.errors import NothingToRedo
from listviews.errors import NothingToUndo
from listviews.orders import By
from listviews.telling import Telling

from worlds import fingerprint

ANN, BOB, EVE = ("ann", {"age": 3}), ("bob", {"age": 5}), ("eve", {"age": 5})


def some():
    return Board([ANN, BOB, EVE])


class Follower:
    """Notes what it is told, and what it sees then."""

    def __init__(self, notes, label, look=None):
        self.notes = notes
        self.label = label
        self.look = look

    def passed(self, before, after):
        self.notes.append((self.label, list(before), list(after)) if self.look is None else self.look())
        before.clear()
        after.clear()


class TellingsTest(unittest.TestCase):
    def test_one_for_each_turn_in_which_rows_or_values_changed(self):
        board = some()
        view = board.filtered("old", Between("age", low=4))
        before = board.pairs()
        self.assertEqual((None, None, 0), (view.told(), board.told(), view.turns))
        board["ann"] = {"age": 2}
        self.assertEqual((None, 0), (view.told(), view.turns))
        self.assertEqual(Telling.between(before, board.pairs()), board.told())
        self.assertEqual(["ann"], board.told().differing())
        board["bob"] = {"age": 6}
        told = view.told()
        self.assertEqual((1, ["bob"], 0), (view.turns, told.differing(), len(told.change)))
        board.move("ann", 2)
        self.assertEqual((told, 1), (view.told(), view.turns))
        self.assertEqual([1, 2, 0], board.told().change.after())
        board.move("bob", 1)
        self.assertEqual(([1, 0], [], 2), (view.told().change.after(), view.told().differing(), view.turns))

    def test_a_turn_that_changes_nothing_tells_nothing(self):
        board = some()
        view = board.ordered("one", By("age"))
        board["ann"] = {"age": 4}
        told, listed = view.told(), board.told()
        board["ann"] = {"age": 4}
        board.move("ann", 0)
        view.setting = By("age")
        board += []
        self.assertEqual((told, listed, 1, 5), (view.told(), board.told(), view.turns, board.undo_count))

    def test_the_steps_between_are_told_at_once(self):
        board = some()
        view = board.ordered("one", By("age"))
        with board.held():
            board.remove("ann")
            board["bob"] = {"age": 1}
            board.add("ann", {"age": 3}, index=0)
            board["bob"] = {"age": 5}
        board.tell()
        self.assertEqual((None, None, 0), (view.told(), board.told(), view.turns))

    def test_a_setting_is_told_by_views_alone(self):
        board = some()
        view, top = board.filtered("old", Between("age", low=4)), board.window("top", 0, 1, on="old")
        view.setting = Between("age", high=3)
        self.assertIsNone(board.told())
        self.assertEqual((["ann"], ["ann"]), (view.told().change.after(), top.told().change.after()))
        board.undo()
        self.assertEqual((2, 2, ["bob", "eve"]), (view.turns, top.turns, view.told().change.after()))

    def test_making_a_view_is_no_turn(self):
        board = some()
        board.remove("ann")
        told = board.told()
        view = board.ordered("one", By("age"))
        self.assertEqual((told, None, 0), (board.told(), view.told(), view.turns))

    def test_the_bounds_can_be_reached(self):
        board = some()
        grouped, unique = board.grouped("ages", By("age")), board.unique("first", By("age"))
        board["bob"] = {"age": 3}
        # Both groups keep their headers.
        self.assertEqual(1, len(grouped.told().change))
        board.undo()
        board["ann"] = {"age": 7}
        self.assertEqual(3, len(grouped.told().change))
        board["bob"] = {"age": 7}
        self.assertEqual(2, len(unique.told().change))


class FollowersTest(unittest.TestCase):
    def test_followers_are_called_in_their_order_with_rows_before_and_after(self):
        board, notes = some(), []
        one, other = board.ordered("one", By("age")), board.filtered("other", Between("age", low=4))
        for at, view in enumerate([other, one, other, one]):
            self.assertIsNone(view.follow(follower=Follower(notes, at)))
        board["ann"] = {"age": 9}
        first, second = (["bob", "eve"], ["ann", "bob", "eve"]), (["ann", "bob", "eve"], ["bob", "eve", "ann"])
        self.assertEqual([(0, *first), (1, *second), (2, *first), (3, *second)], notes)
        self.assertEqual(["ann", "bob", "eve"], other.rows())

    def test_they_are_not_called_where_values_alone_changed(self):
        board, notes = some(), []
        view, other = board.ordered("one", By("age")), board.filtered("other", Between("age", low=4))
        view.follow(Follower(notes, 0))
        other.follow(Follower(notes, 1))
        board["ann"] = {"age": 2}
        with board.held():
            board["ann"] = {"age": 9}
            board.drop()
        board.tell()
        self.assertEqual([], notes)
        board["ann"] = {"age": 5}
        self.assertEqual([(1, ["bob", "eve"], ["ann", "bob", "eve"])], notes)

    def test_all_views_are_up_to_date_then(self):
        board, notes = some(), []
        one, other = board.ordered("one", By("age")), board.filtered("other", Between("age", low=4))
        one.follow(Follower(notes, 0, lambda: (one.need_idle(), fingerprint(board))))
        board.remove("bob")
        self.assertEqual([(None, fingerprint(board))], notes)
        self.assertEqual((["ann", "eve"], ["eve"], 1), (one.rows(), other.rows(), other.turns))
        board.undo()
        board.redo()
        self.assertEqual([(None, fingerprint(board))], notes[2:])

    def test_one_follower_twice_and_of_several_views(self):
        board, notes = some(), []
        follower = Follower(notes, 0)
        for view in (board.window("one", 0, 1), board.window("two", 0, 2)):
            view.follow(follower)
            view.follow(follower)
        board.remove("ann")
        self.assertEqual([(0, ["ann"], ["bob"])] * 2 + [(0, ["ann", "bob"], ["bob", "eve"])] * 2, notes)

    def test_whoever_follows_behind_a_turn_hears_of_the_next_one(self):
        board, notes = some(), []
        view = board.ordered("one", By("age"))
        late = Follower(notes, 1)
        view.follow(Follower(notes, 0, lambda: view.follow(late)))
        board.remove("ann")
        self.assertEqual([None], notes)
        board.remove("bob")
        self.assertEqual([None, None, (1, ["bob", "eve"], ["eve"])], notes)

    def test_closed_views_and_others_of_their_name(self):
        board, notes = some(), []
        view = board.ordered("one", By("age"))
        view.follow(Follower(notes, 0))
        board.close("one")
        view.follow(Follower(notes, 1))
        board.ordered("one", By("age")).follow(Follower(notes, 2))
        board.remove("ann")
        self.assertEqual([(2, ["ann", "bob", "eve"], ["bob", "eve"])], notes)

    def test_a_turn_that_is_refused_calls_nobody(self):
        board, notes = some(), []
        board.window("one", 0, 2).follow(Follower(notes, 0))
        board.ordered("two", lambda key, value: value["age"])
        with self.assertRaises(KeyError):
            board.add("cy", {"size": 1}, index=0)
        self.assertEqual([], notes)

    def test_whoever_follows_from_within_a_function_hears_of_this_turn(self):
        board, notes, followers = some(), [], []
        view = board.ordered("one", By("age"))

        def following(key, value):
            if followers:
                view.follow(followers.pop())
            return 1

        board.ordered("two", following)
        followers.append(Follower(notes, 0))
        board.add("cy", {"age": 1})
        self.assertEqual([(0, ["ann", "bob", "eve"], ["cy", "ann", "bob", "eve"])], notes)


class BusyTest(unittest.TestCase):
    def calls(self, board):
        """All that raises Busy within a function, with arguments that are wrong otherwise."""
        view = board.view_of("one")

        def iadd(other):
            nonlocal board
            board += other

        calls = [lambda: board.add(None, None), lambda: board.remove(5), lambda: board.move(None, None)]
        calls += [lambda: board.__setitem__(None, None), lambda: iadd(None), board.tell, board.drop, board.held, board.hold]
        calls += [board.release, board.undo, board.redo, lambda: board.close("none"), lambda: board.close("one")]
        for kind in ("filtered", "ordered", "unique", "grouped", "mapped"):
            calls.append(lambda kind=kind: getattr(board, kind)("One", None, on=5))
        calls += [lambda: board.window("One", -1, None), lambda: view.change_setting(None), view.need_idle]
        return [*calls, lambda: setattr(view, "setting", None), lambda: board.add("cy", {"age": 1})]

    def test_busy_ahead_of_all_other_exceptions(self):
        for act in (
            lambda board: board.add("dan", {"age": 7}),
            lambda board: setattr(board.view_of("one"), "setting", board.view_of("one").setting),
            lambda board: board.ordered("two", board.view_of("one").setting),
            lambda board: board.undo(),
            lambda board: held_change(board),
        ):
            board, raised, tries = some(), [], []

            def asking(key, value):
                for call in tries:
                    try:
                        call()
                    except Busy as error:
                        raised.append(error.__class__)
                return value["age"]

            board.ordered("one", asking)
            board.remove("ann")
            tries += self.calls(board)
            was = len(raised)
            act(board)
            self.assertGreater(len(raised), was)
            self.assertEqual(0, len(raised) % len(tries))
            self.assertEqual((0, False), (board.pending, board.is_held))
            self.assertIsNone(board.view_of("one").need_idle())
            tries.clear()
            board.add("zed", {"age": 1})

    def test_busy_that_a_function_does_not_catch(self):
        board = some()
        was = fingerprint(board)
        with self.assertRaises(Busy):
            board.ordered("one", lambda key, value: board.remove("ann"))
        self.assertEqual(was, fingerprint(board))
        board.remove("ann")

    def test_closed_views_are_busy_too(self):
        board, raised = some(), []
        view = board.ordered("one", By("age"))
        board.close("one")

        def asking(key, value):
            for call in (view.need_idle, lambda: view.change_setting(By("x"))):
                with self.assertRaises(Busy):
                    call()
                raised.append(key)
            return 1

        board.ordered("two", asking)
        self.assertEqual(6, len(raised))
        self.assertIsNone(view.need_idle())

    def test_other_boards_are_not_busy(self):
        board, other = some(), Board()
        board.ordered("one", lambda key, value: other.add(key, value) or 1)
        self.assertEqual([ANN, BOB, EVE], other.pairs())

    def test_what_a_function_sees(self):
        """Everything is as it was before the call, also what is pending."""
        board, seen = some(), []

        def looking(key, value):
            seen.append((fingerprint(board), board.views(), board == Board(board.pairs()), board["bob"], len(board)))
            return value["age"]

        view = board.grouped("one", age_and_one)
        top = board.window("top", 0, 3, on="one")

        def check(act, count):
            was = (fingerprint(board), board.views(), False, board["bob"], len(board))
            seen.clear()
            act()
            self.assertEqual([was] * count, seen)

        check(lambda: board.ordered("look", looking), 3)
        check(lambda: board.add("cy", {"age": 1}, index=0), 1)
        with board.held():
            board["bob"] = {"age": 8}
            board["eve"] = {"age": 2}
            view.setting = By("-age")
            top.setting = (1, 1)
        check(lambda: board.move("cy", 1), 2)
        check(lambda: board.undo(), 2)
        check(lambda: board.redo(), 2)
        with board.held():
            board["bob"] = {"age": 9}
        check(board.tell, 1)
        check(lambda: board.view_of("look").change_setting(looking), 4)

    def test_a_function_may_look_at_everything(self):
        board, seen = some(), []
        view = board.ordered("one", By("-age"))

        def looking(key, value):
            seen.append((board.names(), view.rows(), list(view), view.place("ann"), view.worth("ann"), view.setting))
            return 1

        board.unique("two", looking)
        board.add("cy", {"age": 9})
        self.assertEqual([(["ann", "bob", "eve"], ["bob", "eve", "ann"], ["bob", "eve", "ann"], 2, {"age": 3}, By("-age"))] * 4, seen)

    def test_a_block_is_not_begun_within_a_function(self):
        board = some()
        block = board.held()

        def holding(key, value):
            with self.assertRaises(Busy):
                with block:
                    pass
            return 1

        board.ordered("one", holding)
        self.assertFalse(board.is_held)


def age_and_one(key, value):
    return value["age"] + 1


def held_change(board):
    with board.held():
        board["bob"] = {"age": 1}
    board.tell()


class UndoTest(unittest.TestCase):
    def test_back_and_forth(self):
        board = some()
        view = board.ordered("one", By("age"))
        states = [(board.pairs(), view.rows())]
        for act in (lambda: board.remove("ann"), lambda: board.move("eve", 0), lambda: board.add("cy", {"age": 1}, index=1)):
            act()
            states.append((board.pairs(), view.rows()))
        for at in (2, 1, 0):
            self.assertIsNone(board.undo())
            self.assertEqual((states[at], at, 3 - at), ((board.pairs(), view.rows()), board.undo_count, board.redo_count))
        with self.assertRaises(NothingToUndo):
            board.undo()
        for at in (1, 2, 3):
            self.assertIsNone(board.redo())
            self.assertEqual((states[at], at, 3 - at), ((board.pairs(), view.rows()), board.undo_count, board.redo_count))
        with self.assertRaises(NothingToRedo):
            board.redo()
        self.assertEqual(states[3], (board.pairs(), view.rows()))

    def test_new_boards_have_nothing_to_undo(self):
        for call, error in ((Board().undo, NothingToUndo), (Board().redo, NothingToRedo)):
            with self.assertRaises(error):
                call()

    def test_a_turn_of_several_operations_is_taken_back_at_once(self):
        board = some()
        view = board.filtered("old", Between("age", low=4))
        with board.held():
            board.remove("bob")
            view.setting = Between("age", high=4)
            board.add("cy", {"age": 1})
            view.setting = Between("age")
        board.tell()
        self.assertEqual((1, ["ann", "eve", "cy"]), (board.undo_count, view.rows()))
        board.undo()
        self.assertEqual(([ANN, BOB, EVE], ["bob", "eve"]), (board.pairs(), view.rows()))
        self.assertEqual((Between("age", low=4), 2), (view.setting, view.turns))
        board.redo()
        self.assertEqual((Between("age"), ["ann", "eve", "cy"]), (view.setting, view.rows()))

    def test_undo_is_told(self):
        board = some()
        view = board.ordered("one", By("age"))
        board.remove("bob")
        board.undo()
        self.assertEqual(([0, "bob", 1], [0, "bob", 1], 2), (board.told().change.after(), view.told().change.after(), view.turns))
        board.redo()
        self.assertEqual(([0, 2], 3), (view.told().change.after(), view.turns))

    def test_new_operations_make_it_forgotten(self):
        board = some()
        board.remove("ann")
        board.remove("bob")
        board.undo()
        board.undo()
        with board.held():
            board.move("ann", 1)
            self.assertEqual((0, 2), (board.undo_count, board.redo_count))
        board.drop()
        board.tell()
        self.assertEqual((0, 2), (board.undo_count, board.redo_count))
        board.redo()
        board.add("cy", {"age": 1})
        self.assertEqual((2, 0), (board.undo_count, board.redo_count))
        with self.assertRaises(NothingToRedo):
            board.redo()
        board.undo()
        board.undo()
        self.assertEqual([ANN, BOB, EVE], board.pairs())

    def test_operations_that_change_nothing_count(self):
        board = some()
        view = board.window("top", 0, 1)
        board.move("ann", 0)
        board += []
        board["ann"] = {"age": 3}
        view.setting = (0, 1)
        self.assertEqual((4, 0), (board.undo_count, view.turns))
        for _ in range(4):
            board.undo()
        self.assertEqual((0, 4), (board.undo_count, board.redo_count))

    def test_views_made_in_between(self):
        board = some()
        one = board.ordered("one", By("age"))
        board.remove("ann")
        one.setting = By("-age")
        other = board.ordered("other", By("-age"), on="one")
        self.assertEqual(2, board.undo_count)
        other.setting = By("age")
        for expected in (["bob", "eve"], ["bob", "eve"], ["bob", "eve", "ann"]):
            board.undo()
            self.assertEqual((expected, By("-age")), (other.rows(), other.setting))
        self.assertEqual(["ann", "bob", "eve"], one.rows())
        board.ordered("last", By("age"))
        self.assertEqual((0, 3), (board.undo_count, board.redo_count))
        for _ in range(3):
            board.redo()
        self.assertEqual((By("age"), ["bob", "eve"]), (other.setting, board.view_of("last").rows()))

    def test_closing_a_view_forgets_all_turns(self):
        board = some()
        board.ordered("one", By("age"))
        board.remove("ann")
        board.remove("bob")
        board.undo()
        board.close("one")
        self.assertEqual((0, 0), (board.undo_count, board.redo_count))
        for call, error in ((board.undo, NothingToUndo), (board.redo, NothingToRedo)):
            with self.assertRaises(error):
                call()

    def test_held_ahead_of_nothing_to_undo(self):
        board = some()
        board.hold()
        for call in (board.undo, board.redo):
            with self.assertRaises(Held):
                call()
        board.remove("ann")
        board.release()
        for call in (board.undo, board.redo):
            with self.assertRaises(Held):
                call()
        board.drop()
        with self.assertRaises(NothingToUndo):
            board.undo()
        with self.assertRaises(NothingToRedo):
            board.redo()

    def test_tell_with_nothing_pending_forgets_nothing(self):
        board = some()
        board.remove("ann")
        board.undo()
        board.tell()
        self.assertEqual((0, 1), (board.undo_count, board.redo_count))

    def test_windows_get_their_bounds_back(self):
        board = some()
        view = board.window("top", 0, 1)
        view.setting = (1, 2)
        board.undo()
        self.assertEqual(((0, 1), ["ann"]), (view.setting, view.rows()))
        board.redo()
        self.assertEqual(((1, 2), ["bob", "eve"]), (view.setting, view.rows()))


if __name__ == "__main__":
    unittest.main()
