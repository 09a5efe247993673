"""Selections, anchors and readers by the words of the document, from what views showed ahead of turns and behind them."""

from listviews.errors import TooMany
from listviews.readers import Reader
from listviews.selections import Anchor
from listviews.selections import Selection
from listviews.telling import Telling

from samples import assert_raises

# Each sign with the sign for the sets of rows.
SIGNS = {"|=": "__or__", "-=": "__sub__", "^=": "__xor__"}


def changed(selection, sign, rows):
    """Carry out one of the signs; the selection itself changes."""
    same = selection
    if sign == "|=":
        selection |= rows
    elif sign == "-=":
        selection -= rows
    else:
        selection ^= rows
    assert selection is same


def draw_change(case, chooser, selection, model):
    """Change a selection and its model, or see that it is refused."""
    row = chooser.choice(model.here)
    kind = chooser.choice(["select", "extend", "extend", "focus", "clear", *SIGNS])
    if kind == "select":
        selection.select(row)
        model.selected, model.focus = [row], row
    elif kind == "extend":
        selection.extend(row)
        model.extend(row)
    elif kind == "focus":
        selection.focus = model.focus = chooser.choice([row, None])
    elif kind == "clear":
        selection.clear()
        model.selected = []
    else:
        rows = chooser.sample(model.here, chooser.randint(0, len(model.here)))
        expected = getattr(set(model.selected), SIGNS[kind])(set(rows))
        if len(expected) > 1 and not model.multiple:
            assert_raises(case, TooMany, "count", len(expected), changed, selection, kind, rows)
        else:
            changed(selection, kind, rows)
            model.selected = list(expected)


class SelectionModel:
    def __init__(self, rows, multiple):
        self.here = list(rows)
        self.multiple = multiple
        self.selected = []
        self.focus = None

    def passed(self, before, after):
        self.here = list(after)
        self.selected = [row for row in self.selected if row in after]
        if self.focus is not None and self.focus not in after:
            at = before.index(self.focus)
            behind = [row for row in before[at + 1 :] if row in after]
            ahead = [row for row in before[:at] if row in after]
            self.focus = behind[0] if behind else ahead[-1] if ahead else None

    def rows(self):
        return [row for row in self.here if row in self.selected]

    def ranges(self):
        """The ranges of the indices of selected rows that have no selected one beside them."""
        chosen = [row in self.selected for row in self.here]
        starts = [at for at, one in enumerate(chosen) if one and (at == 0 or not chosen[at - 1])]
        ends = [at + 1 for at, one in enumerate(chosen) if one and (at + 1 == len(chosen) or not chosen[at + 1])]
        return list(zip(starts, ends))

    def extend(self, row):
        if self.focus is None or not self.multiple:
            self.selected, self.focus = [row], row
            return
        places = [self.here.index(self.focus), self.here.index(row)]
        self.selected = self.here[min(places) : max(places) + 1]


class AnchorModel:
    def __init__(self, gap, gravity):
        self.gap = gap
        self.gravity = gravity

    def passed(self, before, after):
        if self.gravity == "left":
            ahead = [row for row in before[: self.gap] if row in after]
            self.gap = after.index(ahead[-1]) + 1 if ahead else 0
        else:
            behind = [row for row in before[self.gap :] if row in after]
            self.gap = after.index(behind[0]) if behind else len(after)


class Companion:
    """A reader, some selections and some anchors of one view, which are compared with their models behind each act."""

    def __init__(self, case, chooser, view):
        self.case = case
        self.chooser = chooser
        self.view = view
        self.reader = Reader(view)
        self.seen = view.pairs()
        self.behind = 0
        rows = view.rows()
        self.selections = [(Selection(view, multiple=one), SelectionModel(rows, one)) for one in (True, True, False)]
        gaps = [(chooser.randint(0, len(rows)), side) for side in ("left", "right", "left", "right")]
        self.anchors = [(Anchor(view, gap, gravity=side), AnchorModel(gap, side)) for gap, side in gaps]

    def after_act(self, before, after):
        """Compare all behind an act that led from some states of the views, by names, to others."""
        name = self.view.name
        if not self.view.is_closed and name in before:
            self.behind += before[name] != after[name]
            old, new = [[row for row, _ in state] for state in (before[name], after[name])]
            if old != new:
                for _, model in self.selections + self.anchors:
                    model.passed(old, new)
        self.check()
        if self.chooser.random() < 0.2:
            self.take()
        for selection, model in self.selections:
            if model.here and self.chooser.random() < 0.2:
                draw_change(self.case, self.chooser, selection, model)
        self.check()

    def check(self):
        self.case.assertEqual((self.behind, self.seen), (self.reader.behind, self.reader.seen()))
        for selection, model in self.selections:
            self.case.assertEqual((model.rows(), model.ranges()), (selection.rows(), selection.ranges()))
            self.case.assertEqual((model.focus, len(model.selected)), (selection.focus, len(selection)))
        for anchor, model in self.anchors:
            self.case.assertEqual(model.gap, anchor.gap)

    def take(self):
        now = self.view.pairs()
        self.case.assertEqual(Telling.between(self.seen, now), self.reader.take())
        self.seen, self.behind = now, 0
