"""Consoles: boards that are worked on by command lines."""

from listviews.board import Board
from listviews.conditions import Condition
from listviews.conditions import parting
from listviews.errors import InvalidCommand
from listviews.orders import By
from listviews.orders import order_parting
from listviews.selections import Selection
from listviews.shapes import is_kind
from listviews.texts import board_text
from listviews.texts import make_view
from listviews.texts import need_board
from listviews.values import is_name
from listviews.values import parse_integer
from listviews.values import split_words
from listviews.wordings import read_bounds_of
from listviews.wordings import read_function
from listviews.wordings import read_row
from listviews.wordings import read_value
from listviews.wordings import row_text
from listviews.wordings import value_text

GREATEST_INDEX = 99
NOTHING = "nothing"
DONE = "ok"

# What stands behind the first word of a command; "fields", "setting" and "pair" are all words to the end.
FORMS = {
    "insert": ("index", "name", "fields"),
    "remove": ("name",),
    "move": ("name", "index"),
    "set": ("name", "fields"),
    "view": ("name", "kind", "parent", "setting"),
    "setting": ("name", "setting"),
    "close": ("name",),
    "tell": (),
    "drop": (),
    "undo": (),
    "redo": (),
    "select": ("name", "row"),
    "extend": ("name", "row"),
    "rows": ("name",),
    "selected": ("name",),
    "names": (),
    "focus": ("name",),
    "value": ("name", "row"),
    "told": ("parent",),
    "part": ("pair",),
    "finer": ("pair",),
    "text": (),
}
MANY_WORDS = ("fields", "setting", "pair")


class Console:
    """Runs command lines on a board."""

    def __init__(self, board=None):
        if board is not None:
            need_board(board)
        self.board_used = Board() if board is None else board
        # By the names of their views; those of closed views are left here until they are asked for.
        self.selections = {}

    @property
    def board(self):
        """The board."""
        return self.board_used

    def run(self, line):
        """Carry out a command, and return the answer."""
        command, parts = command_of(line)
        if command == "setting":
            # Only the view tells which words can be its setting.
            view = self.board_used.view_of(parts[0])
            need_bounds(view.kind, parts[1], line)
        action = ACTIONS[command]
        return action(self, *parts)

    def run_all(self, *lines):
        """Carry out commands in one hold and perform one turn for them; return the list of the answers."""
        answers = []
        with self.board_used.held():
            for line in lines:
                answers.append(self.run(line))
        self.board_used.tell()
        return answers

    def selection_of(self, name):
        """Return the selection of a view, a new one if there is none."""
        view = self.board_used.view_of(name)
        if name not in self.selections or self.selections[name].view.is_closed:
            self.selections[name] = Selection(view)
        return self.selections[name]


def command_of(line):
    """Return the tuple of the first word of a command line and the list of what its parts state."""
    words = split_words(line)
    if words is None or words[0] not in FORMS:
        raise InvalidCommand(line)
    form = FORMS[words[0]]
    parts = [read_part(part, words_for(at, part, words)) for at, part in enumerate(form)]
    has_end = form != () and form[-1] in MANY_WORDS
    if None in parts or len(words) > len(form) + 1 and not has_end:
        raise InvalidCommand(line)
    if words[0] == "view":
        need_bounds(parts[1], parts[3], line)
    return (words[0], parts)


def words_for(at, part, words):
    """Return the words of a command line that a part takes; behind the first word it has this index."""
    return words[at + 1 :] if part in MANY_WORDS else words[at + 1 : at + 2]


def read_part(part, words):
    """Return what the words of a part state, or None."""
    if part == "fields":
        return read_value(words)
    if part == "setting":
        return None if words == [] else words
    if part == "pair":
        return read_pair(words)
    return None if words == [] else read_word_of(part, words[0])


def read_word_of(part, word):
    """Return what the word of a part states, or None."""
    if part == "index":
        return parse_integer(word, low=0, high=GREATEST_INDEX)
    if part == "row":
        return read_row(word)
    if part == "kind":
        is_right = is_kind(word)
    else:
        is_right = is_name(word) or part == "parent" and word == "-"
    return word if is_right else None


def read_pair(words):
    """Return the tuple of the two texts on either side of a slash, or None."""
    if words.count("/") != 1:
        return None
    at = words.index("/")
    one, other = words[:at], words[at + 1 :]
    return None if one == [] or other == [] else (" ".join(one), " ".join(other))


def need_bounds(kind, words, line):
    """Raise InvalidCommand if the setting of a window is not two numbers."""
    if kind == "window" and read_bounds_of(words, GREATEST_INDEX) is None:
        raise InvalidCommand(line)


def setting_from(kind, words):
    """Return the setting of a view of this kind that these words state."""
    if kind == "window":
        return read_bounds_of(words, GREATEST_INDEX)
    return read_function(kind, " ".join(words))


def run_insert(console, index, key, value):
    """Put a record in."""
    console.board.add(key, value, index=index)
    return DONE


def run_remove(console, key):
    """Take a record out."""
    console.board.remove(key)
    return DONE


def run_move(console, key, index):
    """Put a record at another index."""
    console.board.move(key, index)
    return DONE


def run_set(console, key, value):
    """Give a record another value."""
    board = console.board
    board[key] = value
    return DONE


def run_view(console, name, kind, on, words):
    """Make a view."""
    setting = setting_from(kind, words)
    make_view(console.board, name, kind, on, setting)
    return DONE


def run_setting(console, name, words):
    """Give a view another setting."""
    view = console.board.view_of(name)
    view.change_setting(setting_from(view.kind, words))
    return DONE


def run_close(console, name):
    """Remove a view."""
    console.board.close(name)
    return DONE


def run_tell(console):
    """Perform all pending operations."""
    console.board.tell()
    return DONE


def run_drop(console):
    """Take all pending operations back."""
    console.board.drop()
    return DONE


def run_undo(console):
    """Take the last turn back."""
    console.board.undo()
    return DONE


def run_redo(console):
    """Perform again what was taken back last."""
    console.board.redo()
    return DONE


def run_select(console, name, row):
    """Select a row of a view alone."""
    console.selection_of(name).select(row)
    return DONE


def run_extend(console, name, row):
    """Select the rows of a view from its focus to a row."""
    console.selection_of(name).extend(row)
    return DONE


def tell_rows(console, name):
    """Return the rows of a view."""
    return rows_text(console.board.view_of(name).rows())


def tell_selected(console, name):
    """Return the selected rows of a view."""
    return rows_text(console.selection_of(name).rows())


def tell_names(console):
    """Return the keys of the list."""
    return rows_text(console.board.names())


def tell_focus(console, name):
    """Return the row of a view that has the focus."""
    row = console.selection_of(name).focus
    return NOTHING if row is None else row_text(row)


def tell_value(console, name, row):
    """Return the value of a row of a view."""
    worth = console.board.view_of(name).worth(row)
    return value_text(worth) if isinstance(worth, dict) else str(worth)


def tell_told(console, name):
    """Return what was told last of a view, or of the list."""
    board = console.board
    telling = board.told() if name == "-" else board.view_of(name).told()
    if telling is None:
        return NOTHING
    steps = ", ".join([step_text(step) for step in telling.change.steps()])
    told = NOTHING if steps == "" else steps
    differing = telling.differing()
    return told if differing == [] else f"{told} / {rows_text(differing)}"


def tell_part(console, texts):
    """Return a record on which two conditions part."""
    one, other = Condition.read(texts[0]), Condition.read(texts[1])
    found = parting(one, other)
    return "alike" if found is None else f"{found[0]} {value_text(found[1])}"


def tell_finer(console, texts):
    """Return two values that show that an order is not as fine as another one."""
    one, other = By.read(texts[0]), By.read(texts[1])
    found = order_parting(one, other)
    return "finer" if found is None else f"{value_text(found[0])} / {value_text(found[1])}"


def tell_text(console):
    """Return the text of the board on one line."""
    return board_text(console.board).replace("\n", " / ")


def rows_text(rows):
    """Return the words for rows."""
    return NOTHING if rows == [] else " ".join([row_text(row) for row in rows])


def step_text(step):
    """Return the words for a step."""
    if step[0] == "insert":
        return f"insert {step[1]} {row_text(step[2])}"
    return " ".join([str(part) for part in step])


ACTIONS = {
    "insert": run_insert,
    "remove": run_remove,
    "move": run_move,
    "set": run_set,
    "view": run_view,
    "setting": run_setting,
    "close": run_close,
    "tell": run_tell,
    "drop": run_drop,
    "undo": run_undo,
    "redo": run_redo,
    "select": run_select,
    "extend": run_extend,
    "rows": tell_rows,
    "selected": tell_selected,
    "names": tell_names,
    "focus": tell_focus,
    "value": tell_value,
    "told": tell_told,
    "part": tell_part,
    "finer": tell_finer,
    "text": tell_text,
}
