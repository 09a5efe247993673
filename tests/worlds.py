"""Drawn histories: the same is done with a board and with its model, and all that can be seen is compared."""

import copy

from listviews.board import Board
from listviews.errors import InvalidAnswer
from listviews.errors import InvalidValue
from listviews.errors import Refused
from listviews.fewest import falls
from listviews.fewest import is_certificate
from listviews.fewest import is_steps
from listviews.fewest import staying
from listviews.shapes import factor
from listviews.shapes import most_steps
from listviews.telling import Telling
from listviews.views import View

from followers import Companion
from models import KINDS
from models import NAMES
from models import Desk
from models import Failure
from models import Model
from models import draw_setting
from models import draw_value
from models import draw_wrong_answer

VIEW_NAMES = ("one", "two", "three", "four", "five", "six", "seven", "eight")


class Follower:
    """Notes the turns of a view, and what the board showed then."""

    def __init__(self, world, name, calls):
        self.world = world
        self.label = name
        self.calls = calls

    def passed(self, before, after):
        shown = {name: self.world.board.view_of(name).pairs() for name in self.world.board.views()}
        self.calls.append((self.label, list(before), list(after), shown))
        before.clear()
        after.append("spoilt")


def fingerprint(board):
    """All that a board shows; settings and tellings count as objects."""
    views = [board.view_of(name) for name in board.views()]
    shown = [(view.name, view.kind, view.on, view.rows(), view.pairs(), view.turns, view.is_closed) for view in views]
    objects = [(id(view), id(view.setting), id(view.told())) for view in views] + [id(board.told())]
    counts = (board.pending, board.is_held, board.undo_count, board.redo_count)
    return (board.names(), board.pairs(), shown, objects, counts)


def made_anew(model):
    """A board with the records and views of a model, as of its last turn."""
    board = Board(model.shown[None])
    for name, kind, on, setting in model.views:
        make_view(board, name, kind, on, setting)
    return board


def make_view(board, name, kind, on, setting):
    if kind == "window":
        return board.window(name, *setting, on=on)
    return getattr(board, kind)(name, setting, on=on)


class World:
    """A board and its model."""

    def __init__(self, case, chooser, count):
        self.case = case
        self.chooser = chooser
        pairs = [(name, draw_value(chooser)) for name in chooser.sample(NAMES, count)]
        self.board = Board(copy.deepcopy(pairs))
        self.model = Model(pairs)
        self.desk = Desk()
        self.followers = []
        self.calls = []
        # They are compared with their models behind each act, also when their views are closed.
        self.companions = []

    def passed_setting(self, name, kind, setting):
        return setting if kind == "window" else self.desk.function(name, setting)

    def act(self, on_board, on_model):
        """Do the same with the board and the model, perhaps after a try that fails, and compare them."""
        trial = copy.deepcopy(self.model)
        trial.asked, trial.reset = [], None
        on_model(trial)
        if trial.asked and self.chooser.random() < 0.3:
            self.fail(on_board, trial)
        views = {name: self.board.view_of(name) for name in self.board.views()}
        told = {name: (view.told(), view.turns) for name, view in views.items()}
        told[None] = (self.board.told(), None)
        before = copy.deepcopy(self.model.shown)
        self.model.asked, self.model.reset = [], None
        on_model(self.model)
        on_board()
        self.case.assertEqual(self.model.asked, self.desk.cleared())
        self.check_board()
        if self.model.reset is not None:
            self.check_tellings(before, told)
            self.check_followers(before)
        self.case.assertEqual([], self.calls)
        for companion in self.companions:
            companion.after_act(before, self.model.shown)

    def fail(self, on_board, trial):
        """Let one of the functions fail; nothing changes."""
        at = self.chooser.randrange(len(trial.asked))
        name, row, _ = trial.asked[at]
        wrong = draw_wrong_answer(self.chooser, trial.view(name)[1])
        what = self.chooser.choice([wrong, Failure()])
        was = fingerprint(self.board)
        self.desk.fault = (at, what)
        with self.case.assertRaises((Failure, Refused)) as caught:
            on_board()
        error = caught.exception
        if isinstance(what, Failure):
            self.case.assertIs(what, error)
        else:
            self.case.assertEqual((Refused, name, row), (error.__class__, error.label, error.row))
            cause = InvalidValue if trial.view(name)[1] == "mapped" else InvalidAnswer
            self.case.assertIs(cause, error.__cause__.__class__)
            self.case.assertIs(what, error.__cause__.value)
        self.case.assertEqual(trial.asked[: at + 1], self.desk.cleared())
        self.case.assertEqual(was, fingerprint(self.board))
        self.case.assertEqual([], self.calls)

    def check_board(self):
        board, model = self.board, self.model
        self.case.assertEqual(model.pairs, board.pairs())
        self.case.assertEqual([key for key, _ in model.pairs], list(board))
        self.case.assertEqual([view[0] for view in model.views], board.views())
        anew = made_anew(self.model) if self.model.pending == 0 else None
        for name, kind, on, setting in model.views:
            view = board.view_of(name)
            self.case.assertEqual((name, kind, on), (view.name, view.kind, view.on))
            if kind == "window":
                self.case.assertEqual(setting, view.setting)
            else:
                self.case.assertIs(setting, view.setting.inner)
            self.case.assertEqual(model.shown[name], view.pairs())
            self.case.assertEqual([row for row, _ in model.shown[name]], view.rows())
            if anew is not None:
                self.case.assertEqual(anew.view_of(name).pairs(), view.pairs())
        self.case.assertEqual((model.pending, model.holds > 0), (board.pending, board.is_held))
        self.case.assertEqual((len(model.done), len(model.undone)), (board.undo_count, board.redo_count))

    def check_tellings(self, before, told):
        """Check what was told of a turn: once, in the fewest steps, and within the bounds."""
        sizes = {}
        reset = {name: name in self.model.reset for name in self.board.views()}
        for name in [None, *self.board.views()]:
            shown = self.board if name is None else self.board.view_of(name)
            old, new = before[name], self.model.shown[name]
            telling = Telling.between(old, new)
            sizes[name] = (len(telling.change), len(telling.differing()))
            if old == new:
                self.case.assertIs(told[name][0], shown.told())
            else:
                self.case.assertEqual(telling, shown.told())
                self.check_change(telling.change, old, new)
            if name is not None:
                self.case.assertEqual(told[name][1] + (old != new), shown.turns)
                on, kind = shown.on, shown.kind
                reset[name] = reset[name] or reset.get(on, False)
                if not reset[name]:
                    self.case.assertLessEqual(sizes[name][0], most_steps(kind, *sizes[on]))
                    self.case.assertLessEqual(sizes[name][0], factor(kind) * sum(sizes[on]))

    def check_change(self, change, old, new):
        self.case.assertEqual([row for row, _ in new], change([row for row, _ in old]))
        self.case.assertTrue(is_steps(change, change.steps()))
        self.case.assertTrue(is_certificate(change, staying(change), falls(change)))

    def check_followers(self, before):
        expected = []
        for name, label in self.followers:
            if name in self.model.shown:
                old, new = [[row for row, _ in state[name]] for state in (before, self.model.shown)]
                shown = {view: self.model.shown[view] for view in self.board.views()}
                expected += [(label, old, new, shown)] if old != new else []
        calls, self.calls[:] = list(self.calls), []
        self.case.assertEqual(expected, calls)

    def follow(self, name):
        """Let a follower follow a view; its number is its label."""
        follower = Follower(self, len(self.followers), self.calls)
        self.followers.append((name, follower.label))
        self.board.view_of(name).follow(follower)

    def draw_act(self):
        """Do anything that can be done."""
        acts = [self.draw_operation] * 10 + [self.draw_view] * 2 + [self.draw_hold, self.draw_end] * 2
        acts += [self.draw_undo, self.draw_redo] * 3 + [self.draw_close, self.draw_drop]
        self.chooser.choice(acts)()

    def draw_operation(self):
        names = [key for key, _ in self.model.pairs]
        free = [name for name in NAMES if name not in names]
        acts = [self.draw_setting] * 2 if self.model.views else []
        acts += [lambda: self.draw_add(names, free), lambda: self.draw_extend(free)] if len(names) < 37 else []
        acts += [lambda act=act: act(names) for act in (self.draw_remove, self.draw_move, self.draw_set)] * 2 if names else []
        self.chooser.choice(acts)()

    def draw_add(self, names, free):
        key, value = self.chooser.choice(free), draw_value(self.chooser)
        index = self.chooser.randint(0, len(names))
        passed = dict(value)
        self.act(
            lambda: self.board.add(key, passed, index=index),
            lambda model: model.operate(lambda pairs: pairs.insert(index, (key, value))),
        )
        passed["spoilt"] = 1

    def draw_extend(self, free):
        keys = self.chooser.sample(free, self.chooser.randint(0, 3))
        added = [(key, draw_value(self.chooser)) for key in keys]
        passed = copy.deepcopy(added)

        def on_board():
            board = self.board
            board += passed
            self.case.assertIs(self.board, board)

        self.act(on_board, lambda model: model.operate(lambda pairs: pairs.extend(copy.deepcopy(added))))
        passed.clear()

    def draw_remove(self, names):
        key = self.chooser.choice(names)
        self.act(
            lambda: self.board.remove(key),
            lambda model: model.operate(lambda pairs: pairs.pop(names.index(key))),
        )

    def draw_move(self, names):
        key, index = self.chooser.choice(names), self.chooser.randrange(len(names))
        self.act(
            lambda: self.board.move(key, index),
            lambda model: model.operate(lambda pairs: pairs.insert(index, pairs.pop(names.index(key)))),
        )

    def draw_set(self, names):
        key, value = self.chooser.choice(names), draw_value(self.chooser)
        passed = dict(value)

        def on_board():
            self.board[key] = passed

        def change(pairs):
            pairs[names.index(key)] = (key, value)

        self.act(on_board, lambda model: model.operate(change))
        passed.clear()

    def draw_setting(self):
        name, kind, _, now = self.chooser.choice(self.model.views)
        setting = self.chooser.choice([now, draw_setting(self.chooser, kind)])
        passed = self.passed_setting(name, kind, setting)

        def on_board():
            self.board.view_of(name).setting = passed

        self.act(
            self.chooser.choice([on_board, lambda: self.board.view_of(name).change_setting(passed)]),
            lambda model: model.operate(name=name, setting=setting),
        )

    def draw_view(self):
        """Make a view, if nothing is pending and there is room for one."""
        model, kind = self.model, self.chooser.choice(KINDS)
        names = [view[0] for view in model.views]
        parents = [on for on in [None, *names] if model.depth(on) < 4]
        on = self.chooser.choice(parents)
        if model.pending > 0 or model.holds > 0 or len(names) == 8:
            return
        if on is not None and model.has_headers(on):
            kind = "window"
        name = self.chooser.choice([name for name in VIEW_NAMES if name not in names])
        setting = draw_setting(self.chooser, kind)
        passed = self.passed_setting(name, kind, setting)
        made = []
        self.act(
            lambda: made.append(make_view(self.board, name, kind, on, passed)),
            lambda model: model.make(name, kind, on, setting),
        )
        self.case.assertIsInstance(made[0], View)
        self.case.assertIs(made[0], self.board.view_of(name))
        self.case.assertEqual((None, 0), (made[0].told(), made[0].turns))
        for _ in range(self.chooser.randint(0, 2)):
            self.follow(name)
        if self.chooser.random() < 0.4:
            self.companions.append(Companion(self.case, self.chooser, made[0]))

    def draw_close(self):
        """Close a view that is no parent, if nothing is pending."""
        parents = [view[2] for view in self.model.views]
        free = [view[0] for view in self.model.views if view[0] not in parents]
        if self.model.pending == 0 and self.model.holds == 0 and free:
            name = self.chooser.choice(free)
            self.followers = [one for one in self.followers if one[0] != name]
            self.act(lambda: self.board.close(name), lambda model: model.close(name))

    def draw_hold(self):
        def begin(model):
            model.holds += 1

        self.act(self.board.hold, begin)

    def draw_end(self):
        """Release a hold, or tell behind the last one."""
        if self.model.holds == 0:
            self.act(self.board.tell, lambda model: model.tell())
            return

        def end(model):
            model.holds -= 1

        self.act(self.board.release, end)

    def draw_drop(self):
        self.act(self.board.drop, lambda model: model.drop())

    def draw_undo(self):
        if self.model.pending == 0 and self.model.holds == 0 and self.model.done:
            self.act(self.board.undo, lambda model: model.undo())

    def draw_redo(self):
        if self.model.pending == 0 and self.model.holds == 0 and self.model.undone:
            self.act(self.board.redo, lambda model: model.redo())
