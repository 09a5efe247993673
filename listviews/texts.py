"""Texts of boards: a line for each record, and then a line for each view."""

from listviews.board import Board
from listviews.errors import BoardError
from listviews.errors import Held
from listviews.errors import InvalidBoard
from listviews.errors import InvalidFunction
from listviews.errors import InvalidLine
from listviews.errors import InvalidText
from listviews.errors import MissingError
from listviews.errors import StateError
from listviews.records import Records
from listviews.shapes import is_kind
from listviews.values import MOST_ROWS
from listviews.values import split_words
from listviews.wordings import read_bounds_of
from listviews.wordings import read_function
from listviews.wordings import read_value
from listviews.wordings import setting_text
from listviews.wordings import value_text


def board_text(board):
    """Return the text of a board."""
    need_board(board)
    if board.pending > 0 or board.is_held:
        raise Held()
    lines = [f"record {key} {value_text(value)}" for key, value in board.pairs()]
    views = [board.view_of(name) for name in board.views()]
    return "\n".join(lines + [view_line(view) for view in views])


def view_line(view):
    """Return the line of a view."""
    text = setting_text(view.kind, view.setting)
    if text is None:
        raise InvalidFunction(view.name)
    on = "-" if view.on is None else view.on
    return f"view {view.name} {view.kind} {on} {text}"


def parse_board(text):
    """Return a new board that equals the one with this text."""
    if not isinstance(text, str):
        raise InvalidText(text)
    lines = text.split("\n") if text != "" else []
    count = count_of_records(lines)
    records = Records()
    for at, line in enumerate(lines[:count]):
        records = with_record(records, line, at)
    board = Board(records)
    for at, line in enumerate(lines[count:], start=count):
        add_view(board, line, at)
    return board


def need_board(value):
    """Raise InvalidBoard unless the value is a board."""
    if not isinstance(value, Board):
        raise InvalidBoard(value)


def count_of_records(lines):
    """Return how many lines stand ahead of the first one that can be no record's."""
    for at, line in enumerate(lines):
        if not line.startswith("record "):
            return at
    return len(lines)


def with_record(records, line, at):
    """Return the records and the one that the line with this index states."""
    words = split_words(line)
    if words is None:
        raise InvalidLine(at)
    try:
        return records.inserted(words[1], read_value(words[2:]))
    except (BoardError, StateError):
        raise InvalidLine(at) from None


def add_view(board, line, at):
    """Make the view that the line with this index states."""
    words = split_words(line)
    if words is None or len(words) < 5 or words[0] != "view" or not is_kind(words[2]):
        raise InvalidLine(at)
    try:
        make_view(board, words[1], words[2], words[3], read_setting(words[2], words[4:]))
    except (BoardError, MissingError, StateError):
        raise InvalidLine(at) from None


def read_setting(kind, words):
    """Return the setting that these words state for this kind of views, or raise InvalidText."""
    text = " ".join(words)
    if kind != "window":
        return read_function(kind, text)
    bounds = read_bounds_of(words, MOST_ROWS)
    if bounds is None:
        raise InvalidText(text)
    return bounds


def make_view(board, name, kind, on, setting):
    """Make a view of a kind; `on` is the name of its parent, or a minus sign for the list."""
    parent = None if on == "-" else on
    if kind == "window":
        start, count = setting
        board.window(name, start, count, on=parent)
    else:
        board.view_with_function(kind, name, setting, parent)
