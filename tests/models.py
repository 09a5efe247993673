"""A model of boards by the words of the document alone, and functions for views that note how they are called.

The model keeps states, lists of tuples (row, value), and works every one of them
out anew in each turn.
"""

import copy

from listviews.conditions import Between
from listviews.conditions import Named
from listviews.orders import By
from listviews.orders import Plus

NAMES = [one + other for one in "abcdef" for other in "abcdefgh"]
FIELDS = ["age", "size", "x"]
KINDS = ("filtered", "ordered", "unique", "window", "grouped", "mapped")
WRONG_NUMBERS = (None, True, 10000, -10000, "1", (), (1, 2, 3, 4), (1, True), (10000,), [1], {"age": 1})
WRONG_ANSWERS = {
    "filtered": (None, 0, 1, "True", (True,), [], {"age": 1}),
    "mapped": (None, True, 5, {}, {"age": 1000}, {"age": True}, {"Age": 1}, {1: 1}, [("age", 1)], ("age", 1)),
}


class Failure(Exception):
    """What functions raise on purpose."""


class Desk:
    """Where functions note their calls, and where one of their next calls can be made to fail.

    `fault` is None, or a tuple of the number of calls that go well first, and of
    what is returned, or raised, by the next one.
    """

    def __init__(self):
        self.notes = []
        self.fault = None

    def cleared(self):
        """Return the notes, and begin with none."""
        notes, self.notes = self.notes, []
        return notes

    def function(self, label, function):
        return Noting(self, label, function)


class Noting:
    """A function that notes its calls, and changes what it is given and, later, what it has returned."""

    def __init__(self, desk, label, function):
        self.desk = desk
        self.label = label
        self.inner = function
        self.returned = []

    def __call__(self, key, value):
        for old in self.returned:
            old["spoilt"] = 1
        self.desk.notes.append((self.label, key, dict(value)))
        result = self.inner(key, dict(value))
        value.clear()
        if self.desk.fault is not None:
            left, what = self.desk.fault
            self.desk.fault = (left - 1, what) if left > 0 else None
            if left == 0 and isinstance(what, Exception):
                raise what
            if left == 0:
                return what
        if isinstance(result, dict):
            self.returned.append(result)
        return result


def draw_value(chooser):
    fields = chooser.sample(FIELDS, chooser.randint(1, 3))
    return {field: chooser.randint(0, 3) for field in fields}


def draw_setting(chooser, kind):
    """A setting for this kind of views; equal arguments of a function have equal results."""
    number = chooser.randint(0, 2)
    field, other = chooser.sample(FIELDS, 2)
    if kind == "window":
        return (chooser.randint(0, 6), chooser.randint(0, 12))
    if kind == "filtered":
        found = [Between(field, low=1), ~Between(other, low=number), ~Named(*NAMES[number : number + 8])]
        found.append(lambda key, value: (sum(value.values()) + len(value)) % 4 != number)
    elif kind == "mapped":
        found = [Plus(field, number), lambda key, value: {**value, "x": len(value)}]
        found.append(lambda key, value: {"age": sum(value.values()) % 3, "size": ord(key[0]) % 3})
    else:
        found = [By(field), By("-" + field, other), lambda key, value: sum(value.values()) % 3 - 1]
        found.append(lambda key, value: (value.get(field, -5), ord(key[1]) % 2))
    return chooser.choice(found)


def draw_wrong_answer(chooser, kind):
    return chooser.choice(WRONG_ANSWERS.get(kind, WRONG_NUMBERS))


def as_answer(result):
    return result if isinstance(result, tuple) else (result,)


def defined_state(kind, setting, parent):
    """The state of a view with this setting, if its parent has this state."""
    if kind == "window":
        start, count = setting
        return [pair for at, pair in enumerate(parent) if start <= at < start + count]
    results = [setting(row, dict(value)) for row, value in parent]
    if kind == "mapped":
        return [(pair[0], result) for pair, result in zip(parent, results)]
    if kind == "filtered":
        return [pair for pair, result in zip(parent, results) if result]
    answers = [as_answer(result) for result in results]
    if kind == "unique":
        return [pair for at, pair in enumerate(parent) if answers[at] not in answers[:at]]
    state = []
    for answer in sorted(set(answers)):
        members = [pair for pair, one in zip(parent, answers) if one == answer]
        if kind == "grouped":
            state.append((("group", answer), len(members)))
        state += members
    return state


class Model:
    """What a board has to show and to count, and what its functions have to be asked in a turn."""

    def __init__(self, pairs):
        self.pairs = copy.deepcopy(pairs)
        # The states of the last turn by the names of the views; None stands for the list.
        self.shown = {None: copy.deepcopy(pairs)}
        # Lists [name, kind, on, setting].
        self.views = []
        self.base = None
        self.set_names = []
        self.pending = 0
        self.holds = 0
        self.done = []
        self.undone = []
        self.asked = []
        # The names of the views whose settings were set or given back in the last turn, None if there was none now.
        self.reset = None

    def view(self, name):
        return [view for view in self.views if view[0] == name][0]

    def depth(self, name):
        return 0 if name is None else 1 + self.depth(self.view(name)[2])

    def has_headers(self, name):
        kind, on = self.view(name)[1:3]
        return kind == "grouped" or kind == "window" and on is not None and self.has_headers(on)

    def snapshot(self):
        return copy.deepcopy(self.pairs), {view[0]: view[3] for view in self.views}

    def restore(self, snapshot, names):
        self.pairs = copy.deepcopy(snapshot[0])
        for name in names:
            self.view(name)[3] = snapshot[1][name]

    def make(self, name, kind, on, setting):
        self.views.append([name, kind, on, setting])
        self.asked = [] if kind == "window" else [(name, row, dict(value)) for row, value in self.shown[on]]
        self.shown[name] = defined_state(kind, setting, self.shown[on])

    def close(self, name):
        self.views.remove(self.view(name))
        del self.shown[name]
        self.done, self.undone = [], []

    def operate(self, change=None, name=None, setting=None):
        """Perform an operation: change the list of pairs, or set a setting."""
        if self.pending == 0:
            self.base, self.set_names = self.snapshot(), []
        self.pending += 1
        if change is not None:
            change(self.pairs)
        else:
            self.view(name)[3] = setting
            self.set_names = [*self.set_names, name]
        if self.holds == 0:
            self.tell()

    def tell(self):
        if self.pending > 0:
            self.done.append((self.base, self.snapshot(), self.set_names))
            self.undone = []
            self.pending = 0
            self.turn(self.set_names)

    def drop(self):
        if self.pending > 0:
            self.restore(self.base, self.set_names)
            self.pending = 0

    def undo(self):
        entry = self.done.pop()
        self.undone.append(entry)
        self.restore(entry[0], entry[2])
        self.turn(entry[2])

    def redo(self):
        entry = self.undone.pop()
        self.done.append(entry)
        self.restore(entry[1], entry[2])
        self.turn(entry[2])

    def turn(self, names):
        """Work all states out anew; the settings of the views with these names were set or given back."""
        before, self.asked, self.reset = self.shown, [], names
        self.shown = {None: copy.deepcopy(self.pairs)}
        for name, kind, on, setting in self.views:
            old = dict(before[on])
            for row, value in self.shown[on]:
                if kind != "window" and (name in names or row not in old or old[row] != value):
                    self.asked.append((name, row, dict(value)))
            self.shown[name] = defined_state(kind, setting, self.shown[on])
