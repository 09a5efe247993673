"""[121], [122]: texts of boards, written and read."""

import random
import unittest

from listviews import texts as module
from listviews.board import Board
from listviews.conditions import Between
from listviews.conditions import Condition
from listviews.conditions import Named
from listviews.errors import Held
from listviews.errors import InvalidBoard
from listviews.errors import InvalidFunction
from listviews.errors import InvalidLine
from listviews.errors import InvalidText
from listviews.orders import By
from listviews.orders import Plus
from listviews.texts import board_text
from listviews.texts import parse_board

from models import KINDS
from models import NAMES
from models import draw_value
from samples import any_values
from samples import assert_raises
from worlds import make_view

TEXT = """record ann age=30 size=-5
record bob x=0
view old filtered - (age 18..999 and not [bo])
view up ordered old age -size
view one unique up -age
view plus mapped one plus age -3
view ages grouped - age
view top window ages 0 80"""


def draw_condition(chooser, depth=3):
    kind = chooser.choice(["field", "names"] if depth == 1 else ["field", "names", "and", "or", "not"])
    if kind == "field":
        low = chooser.randint(-999, 999)
        return Between(chooser.choice(["age", "not", "and", "x"]), low=low, high=chooser.randint(low, 999))
    if kind == "names":
        return Named(*chooser.sample(NAMES, chooser.randint(0, 2)))
    one = draw_condition(chooser, depth - 1)
    if kind == "not":
        return ~one
    other = draw_condition(chooser, depth - 1)
    return one & other if kind == "and" else one | other


def draw_written(chooser, kind):
    """A setting that can be written for this kind of views."""
    if kind == "window":
        return (chooser.randint(0, 80), chooser.randint(0, 80))
    if kind == "filtered":
        return draw_condition(chooser)
    if kind == "mapped":
        return Plus(chooser.choice(["age", "x"]), chooser.randint(-999, 999))
    return By(*[chooser.choice(["", "-"]) + chooser.choice(["age", "x", "size"]) for _ in range(chooser.randint(1, 3))])


def draw_board(chooser):
    board = Board([(name, draw_value(chooser)) for name in chooser.sample(NAMES, chooser.randint(0, 40))])
    depths = {None: 0}
    for name in chooser.sample(["one", "two", "record", "view", "a", "b", "window", "eight"], chooser.randint(0, 8)):
        on = chooser.choice([one for one in depths if depths[one] < 4])
        kind = chooser.choice(KINDS)
        if on is not None and has_headers(board, on):
            kind = "window"
        make_view(board, name, kind, on, draw_written(chooser, kind))
        depths[name] = depths[on] + 1
    return board


def has_headers(board, name):
    view = board.view_of(name)
    return view.kind == "grouped" or view.kind == "window" and view.on is not None and has_headers(board, view.on)


class WritingTest(unittest.TestCase):
    def test_all_is_defined_in_this_file(self):
        for name in ("board_text", "parse_board"):
            self.assertEqual("listviews.texts", getattr(module, name).__module__)

    def test_each_kind_of_line(self):
        board = Board([("ann", {"size": -5, "age": 30}), ("bob", {"x": 0})])
        board.filtered("old", Between("age", low=18) & ~Named("bo"))
        board.ordered("up", By("age", "-size"), on="old")
        board.unique("one", By("-age"), on="up")
        board.mapped("plus", Plus("age", -3), on="one")
        board.grouped("ages", By("age"))
        board.window("top", 0, 80, on="ages")
        self.assertEqual(TEXT, board_text(board))
        self.assertEqual(TEXT, board_text(board=board))

    def test_small_boards(self):
        self.assertEqual("", board_text(Board()))
        self.assertEqual("record ann a=-999 b=0 c=999", board_text(Board([("ann", {"c": 999, "b": 0, "a": -999})])))
        board = Board()
        board.window("top", 3, 0)
        self.assertEqual("view top window - 3 0", board_text(board))
        board.filtered("none", Named())
        self.assertEqual("view top window - 3 0\nview none filtered - []", board_text(board))

    def test_records_and_settings_of_now(self):
        board = parse_board("record ann age=1\nview one ordered - age")
        board["ann"] = {"age": 2}
        board.view_of("one").setting = By("x")
        self.assertEqual("record ann age=2\nview one ordered - x", board_text(board))
        board.undo()
        self.assertEqual("record ann age=2\nview one ordered - age", board_text(board))

    def test_what_is_no_board(self):
        for value in [*any_values(), Board().window("a", 0, 1)]:
            assert_raises(self, InvalidBoard, "value", value, board_text, value)

    def test_held(self):
        board = Board([("ann", {"age": 1})])
        board.ordered("one", lambda key, value: 1)
        board.hold()
        with self.assertRaises(Held):
            board_text(board)
        board.remove("ann")
        board.release()
        with self.assertRaises(Held):
            board_text(board)
        board.tell()
        self.refuse(board, "one")

    def refuse(self, board, name):
        """Check that the very name of a view is refused."""
        assert_raises(self, InvalidFunction, "value", board.view_of(name).name, board_text, board)

    def test_functions_that_cannot_be_written(self):
        right = {"filtered": Condition, "mapped": Plus, "ordered": By, "unique": By, "grouped": By}
        functions = [By("age"), Plus("age", 1), Between("age"), ~Named("a"), lambda key, value: 1]
        for kind, wanted in right.items():
            for function in functions:
                board = Board()
                board.window("top", 0, 1)
                getattr(board, kind)("".join(["o", "ne"]), function)
                board.ordered("last", functions[-1])
                board.ordered("good", By("age"))
                if not isinstance(function, wanted):
                    self.refuse(board, "one")
                else:
                    self.refuse(board, "last")
                    board.close("last")
                    self.assertEqual(3, len(board_text(board).split("\n")))


class ReadingTest(unittest.TestCase):
    def test_each_kind_of_line(self):
        board = parse_board(text=TEXT)
        self.assertEqual([("ann", {"age": 30, "size": -5}), ("bob", {"x": 0})], board.pairs())
        self.assertEqual(["old", "up", "one", "plus", "ages", "top"], board.views())
        found = [(view.kind, view.on, view.setting) for view in map(board.view_of, board.views())]
        expected = [
            ("filtered", None, Between("age", low=18) & ~Named("bo")),
            ("ordered", "old", By("age", "-size")),
            ("unique", "up", By("-age")),
            ("mapped", "one", Plus("age", -3)),
            ("grouped", None, By("age")),
            ("window", "ages", (0, 80)),
        ]
        self.assertEqual(expected, found)
        self.assertEqual([("ann", {"age": 27, "size": -5})], board.view_of("plus").pairs())

    def test_each_board_is_read_back(self):
        for seed in range(150):
            board = draw_board(random.Random(seed))
            text = board_text(board)
            again = parse_board(text)
            self.assertTrue(again == board)
            self.assertEqual(text, board_text(again))
            self.assertEqual((0, 0, None, 0, False), (again.undo_count, again.redo_count, again.told(), again.pending, again.is_held))
            for name in board.views():
                view = again.view_of(name)
                self.assertEqual(board.view_of(name).pairs(), view.pairs())
                self.assertEqual((None, 0), (view.told(), view.turns))

    def test_small_texts(self):
        self.assertTrue(parse_board("") == Board())
        self.assertTrue(parse_board("record ann age=1") == Board([("ann", {"age": 1})]))
        self.assertEqual(["one"], parse_board("view one filtered - []").views())

    def test_a_long_text(self):
        fields = " ".join(f"{letter * 8}=-999" for letter in "abcdef")
        text = "\n".join(f"record {name} {fields}" for name in NAMES[:40])
        self.assertGreater(len(text), 3000)
        self.assertEqual(text, board_text(parse_board(text)))

    def test_what_is_no_text(self):
        for value in any_values():
            if not isinstance(value, str):
                assert_raises(self, InvalidText, "value", value, parse_board, value)
        for value in any_values():
            if isinstance(value, str) and value:
                assert_raises(self, InvalidLine, "index", 0, parse_board, value)

    def refuse(self, index, text):
        assert_raises(self, InvalidLine, "index", index, parse_board, text)

    def test_a_line_that_is_spoilt_in_one_place(self):
        lines = TEXT.split("\n")
        spoilt = {
            "record ann age=30 size=-5": """record ann size=-5 age=30/record ann age=30 age=30/record ann/record
                record ann age=30 size=-05/record ann age=30 size=-0/record ann age=+30/record ann age=30 size
                record ann age=1000/record ann age=-1000/record Ann age=30/record annannann age=30/record ann Age=30
                record ann =30/record ann age=/record ann age=30=30/record ann age=30, size=-5/Record ann age=30
                record ann age =30/record ann a=1 b=1 c=1 d=1 e=1 f=1 g=1/record age=30/record ann 5/view ann age=30
                record ann age=030/record ann ann age=30/record ann age=3_0/record ann age=30 size=-5 5""",
            "view old filtered - (age 18..999 and not [bo])": """view old filtered - age/view old filtered -/view old
                view old filtered/view/view filtered - age 1..2/view old filter - age 1..2/view Old filtered - age 1..2
                view old filtered old age 1..2/view old filtered up age 1..2/view old filtered none age 1..2
                view old filtered -- age 1..2/view old filtered - age 01..2/view old filtered - age 2..1
                view old filtered - (age 1..2)/view old filtered - age -size/view old filtered - plus age 1
                view old filtered - 1 2/View old filtered - age 1..2/view old filtered - age 1..1000/view old Filtered - []
                view old list - age/view old Ordered - age/view old first - age 1..2/view oldoldold filtered - age 1..2/view old filtered - age 1..2 x""",
            "view up ordered old age -size": """view up ordered old/view up ordered old a b c d/view up ordered old --age
                view up ordered old Age/view up ordered old age 1..2/view up ordered old plus age 1/view old ordered - age
                view up ordered old 1 2/view up ordered up age/view up ordered old -""",
            "view plus mapped one plus age -3": """view plus mapped one age -3/view plus mapped one plus age
                view plus mapped one plus age -03/view plus mapped one plus age +3/view plus mapped one plus age 1000
                view plus mapped one minus age 3/view plus mapped one plus age 3 4/view plus mapped one age
                view one mapped one plus age 3""",
            "view top window ages 0 80": """view top window ages 0/view top window ages 0 80 1/view top window ages 0 81
                view top window ages 81 0/view top window ages -1 0/view top window ages 00 80/view top window ages (0, 80)
                view top window ages a b/view top ordered ages age/view top grouped ages age/view top mapped ages plus age 1
                view top filtered ages []/view top unique ages age/view top window Ages 0 80/view top window ages""",
        }
        for line, others in spoilt.items():
            at = lines.index(line)
            for other in [one.strip() for one in others.replace("\n", "/").split("/")]:
                self.refuse(at, "\n".join([*lines[:at], other, *lines[at + 1 :]]))
                self.refuse(at, "\n".join([*lines[:at], other, "nonsense"]))

    def test_blanks(self):
        lines = TEXT.split("\n")
        for at, line in enumerate(lines):
            for other in (" " + line, line + " ", line.replace(" ", "  ", 1), line + "\n", "\n" + line, "", " "):
                wrong = at + 1 if other == line + "\n" else at
                self.refuse(wrong, "\n".join([*lines[:at], other, *lines[at + 1 :]]))
            for place, letter in enumerate(line):
                if letter == " ":
                    self.refuse(at, "\n".join([*lines[:at], line[:place] + " " + line[place:], *lines[at + 1 :]]))
                    self.refuse(at, "\n".join([*lines[:at], line[:place] + line[place + 1 :], *lines[at + 1 :]]))

    def test_the_order_of_lines(self):
        lines = TEXT.split("\n")
        for at, line in enumerate(lines):
            self.refuse(at + 1, "\n".join([*lines[: at + 1], line, *lines[at + 1 :]]))
        self.refuse(0, "record ann\nage=1")
        self.refuse(1, "record ann age=1\nsize=1")
        self.refuse(1, "view top window - 0 1\nrecord ann age=1")
        self.refuse(2, "record bob age=1\nview top window - 0 1\nrecord ann age=1")
        self.refuse(0, "view two window one 0 1\nview one window - 0 1")

    def test_limits(self):
        records = [f"record {name} a=1" for name in NAMES]
        self.assertEqual(40, len(parse_board("\n".join(records[:40]))))
        self.refuse(40, "\n".join(records[:41]))
        self.refuse(40, "\n".join(records[:44] + ["view one window - 0 1"]))
        views = [f"view v{letter} window - 0 1" for letter in "abcdefghi"]
        self.assertEqual(8, len(parse_board("\n".join(views[:8])).views()))
        self.refuse(8, "\n".join(views))
        self.refuse(9, "\n".join(records[:1] + views))
        chain = [f"view v{letter} window {on} 0 1" for letter, on in zip("abcde", ["-", "va", "vb", "vc", "vd"])]
        self.assertEqual(4, len(parse_board("\n".join(chain[:4])).views()))
        self.refuse(4, "\n".join(chain))
        grouped = ["view one grouped - a", "view two window one 0 1"]
        self.refuse(2, "\n".join([*grouped, "view three ordered two a"]))
        deep = "view one filtered - " + "not " * 4 + "a 1..2"
        self.assertEqual(1, len(parse_board(deep).views()))
        self.refuse(0, deep.replace("a 1..2", "not a 1..2"))

    def test_each_text_that_is_read_is_the_text_of_the_board(self):
        """Also where a text was spoilt by chance."""
        read = 0
        for seed in range(3000):
            chooser = random.Random(seed)
            text = list(TEXT)
            at = chooser.randrange(len(text))
            text[at : at + chooser.randint(0, 1)] = chooser.choice("ab -019=.\n[](") * chooser.randint(0, 1)
            text = "".join(text)
            try:
                board = parse_board(text)
            except InvalidLine as error:
                self.assertLess(error.index, len(text.split("\n")))
            else:
                self.assertEqual(text, board_text(board))
                read += text != TEXT
        self.assertTrue(read)


if __name__ == "__main__":
    unittest.main()
