"""[123], [124]: consoles, their commands and questions."""

import unittest

from listviews import console as module
from listviews.board import Board
from listviews.conditions import Between
from listviews.conditions import Condition
from listviews.conditions import is_parting
from listviews.console import Console
from listviews.errors import Busy
from listviews.errors import Held
from listviews.errors import InUse
from listviews.errors import InvalidBoard
from listviews.errors import InvalidCommand
from listviews.errors import InvalidFunction
from listviews.errors import InvalidInteger
from listviews.errors import InvalidText
from listviews.errors import KeyTaken
from listviews.errors import NameTaken
from listviews.errors import NothingToRedo
from listviews.errors import NothingToUndo
from listviews.errors import NotPlain
from listviews.errors import Refused
from listviews.errors import TooMany
from listviews.errors import UnknownKey
from listviews.errors import UnknownRow
from listviews.errors import UnknownView
from listviews.orders import By
from listviews.orders import is_order_parting
from listviews.texts import board_text
from listviews.texts import parse_board
from listviews.wordings import read_value

from samples import any_values
from samples import assert_raises

TEXT = """record ann age=30 size=1
record bob age=20
record cy age=30
view ages grouped - age
view old filtered - age 25..999
view top window ages 0 2
view plus mapped old plus age 1"""


def some():
    return Console(parse_board(TEXT))


class ConsoleTest(unittest.TestCase):
    def check(self, console, *pairs):
        for line, answer in pairs:
            self.assertEqual(answer, console.run(line), line)

    def raises(self, console, line, error, **fields):
        was = console.board.pairs(), console.board.views(), console.board.pending
        with self.assertRaises(error) as caught:
            console.run(line)
        self.assertEqual((error, fields), (caught.exception.__class__, vars(caught.exception)), line)
        self.assertEqual(was, (console.board.pairs(), console.board.views(), console.board.pending))


class MakingTest(ConsoleTest):
    def test_all_is_defined_in_this_file_and_class(self):
        self.assertEqual("listviews.console", module.Console.__module__)
        for name in "board run run_all".split():
            self.assertIn(name, vars(Console))

    def test_boards(self):
        for board in (Board(), parse_board(TEXT)):
            self.assertIs(board, Console(board).board)
            self.assertIs(board, Console(board=board).board)
        self.assertTrue(Console().board == Console(None).board == Board())
        self.assertIsNot(Console().board, Console().board)
        for value in any_values():
            if value is not None:
                assert_raises(self, InvalidBoard, "value", value, Console, value)


class OperationsTest(ConsoleTest):
    def test_the_list(self):
        console = some()
        self.check(
            console,
            ("insert 0 dan age=-5 size=0", "ok"),
            ("insert 4 eve x=999", "ok"),
            ("remove bob", "ok"),
            ("move ann 3", "ok"),
            ("set cy a=1 b=2 c=3 d=4 e=5 f=6", "ok"),
            ("names", "dan cy eve ann"),
        )
        expected = [("dan", {"age": -5, "size": 0}), ("cy", {letter: at for at, letter in enumerate("abcdef", 1)})]
        self.assertEqual([*expected, ("eve", {"x": 999}), ("ann", {"age": 30, "size": 1})], console.board.pairs())
        self.assertEqual(5, console.board.undo_count)

    def test_views(self):
        console = Console(parse_board("record ann age=3\nrecord bob age=5"))
        self.check(
            console,
            ("view old filtered - (age 4..9 or [eve])", "ok"),
            ("view down ordered - -age x", "ok"),
            ("view one unique down age", "ok"),
            ("view more mapped one plus age -3", "ok"),
            ("view ages grouped more -age", "ok"),
            ("view top window down 0 80", "ok"),
            ("setting old age 1..3", "ok"),
            ("setting down age", "ok"),
            ("setting one -size", "ok"),
            ("setting more plus age 5", "ok"),
            ("setting top 1 1", "ok"),
            ("rows top", "bob"),
        )
        self.raises(console, "setting ages -x y z w", InvalidText, value="-x y z w")
        self.check(console, ("setting ages -x", "ok"), ("close top", "ok"), ("close ages", "ok"))
        self.assertEqual(["old", "down", "one", "more"], console.board.views())
        expected = "record ann age=3\nrecord bob age=5\nview old filtered - age 1..3\nview down ordered - age\n"
        self.assertEqual(expected + "view one unique down -size\nview more mapped one plus age 5", board_text(console.board))

    def test_turns(self):
        console = some()
        self.check(console, ("tell", "ok"), ("drop", "ok"), ("remove ann", "ok"), ("undo", "ok"), ("names", "ann bob cy"))
        self.check(console, ("redo", "ok"), ("names", "bob cy"), ("undo", "ok"))
        console.board.hold()
        self.check(console, ("remove ann", "ok"), ("names", "bob cy"), ("rows old", "ann cy"), ("drop", "ok"), ("names", "ann bob cy"))
        self.check(console, ("remove cy", "ok"))
        console.board.release()
        self.check(console, ("tell", "ok"), ("rows old", "ann"), ("undo", "ok"), ("rows old", "ann cy"))

    def test_operations_that_are_refused(self):
        console = some()
        self.raises(console, "insert 4 dan age=1", InvalidInteger, value=4)
        self.raises(console, "insert 99 ann age=1", InvalidInteger, value=99)
        self.raises(console, "insert 3 ann age=1", KeyTaken, key="ann")
        self.raises(console, "remove dan", UnknownKey, key="dan")
        self.raises(console, "move dan 3", InvalidInteger, value=3)
        self.raises(console, "move dan 2", UnknownKey, key="dan")
        self.raises(console, "set dan age=1", UnknownKey, key="dan")
        self.raises(console, "undo", NothingToUndo)
        self.raises(console, "redo", NothingToRedo)
        self.raises(console, "close none", UnknownView, label="none")
        self.raises(console, "close old", InUse, label="old")
        self.raises(console, "view ages window - 0 1", NameTaken, label="ages")
        self.raises(console, "view new window - 0 81", InvalidInteger, value=81)
        self.raises(console, "view new window none 99 81", InvalidInteger, value=99)
        self.raises(console, "view new window none 0 1", UnknownView, label="none")
        self.raises(console, "view new ordered ages age", NotPlain, label="ages")
        self.raises(console, "setting none 1", UnknownView, label="none")
        self.raises(console, "setting top 0 99", InvalidInteger, value=(0, 99))
        self.check(console, ("view aa window plus 0 1", "ok"), ("view bb window aa 0 1", "ok"))
        self.raises(console, "view cc window bb 0 1", TooMany, count=5)
        for letter in "cd":
            self.check(console, (f"view {letter} window - 0 1", "ok"))
        self.raises(console, "view e window - 0 1", TooMany, count=9)
        console.board.hold()
        for line in ("tell", "undo", "redo", "close aa", "view new window - 0 1", "text"):
            self.raises(console, line, Held)

    def test_answers_that_are_refused(self):
        console = Console(Board([("ann", {"age": 1})]))
        console.board.filtered("low", lambda key, value: value["age"] < 30 or None)
        self.raises(console, "set ann age=30", Refused, label="low", row="ann")

    def test_texts_that_cannot_be_read_come_ahead_of_the_board(self):
        console = some()
        for kind, text in (("filtered", "age"), ("ordered", "age 1..2"), ("unique", "-"), ("mapped", "age 1"), ("grouped", "a b c d")):
            self.raises(console, f"view ages {kind} none {text}", InvalidText, value=text)
        self.raises(console, "setting none x / y", UnknownView, label="none")
        self.raises(console, "setting ages x / y", InvalidText, value="x / y")
        self.raises(console, "setting old age", InvalidText, value="age")
        self.raises(console, "setting plus age 1", InvalidText, value="age 1")
        console.board.hold()
        self.raises(console, "view ages filtered none age", InvalidText, value="age")

    def test_busy(self):
        console, raised = some(), []

        def asking(key, value):
            for line in ("remove dan", "tell", "drop", "undo", "redo", "close ages", "view new window none 0 1", "select ages zoe",
                         "extend ages #30", "setting top 99 99", "insert 99 ann a=1", "move dan 99", "set dan a=1"):
                with self.assertRaises(Busy):
                    console.run(line)
                raised.append(line)
            with self.assertRaises(Busy):
                console.run_all("names")
            self.check(console, ("rows ages", "#20 bob #30 ann cy"), ("names", "ann bob cy"), ("told -", "nothing"))
            with self.assertRaises(InvalidCommand):
                console.run("remove")
            return 1

        console.board.ordered("new", asking)
        self.assertEqual(3 * 13, len(raised))


class SelectionsTest(ConsoleTest):
    def test_select_and_extend(self):
        console = some()
        self.check(
            console,
            ("selected ages", "nothing"),
            ("focus ages", "nothing"),
            ("select ages bob", "ok"),
            ("selected ages", "bob"),
            ("extend ages ann", "ok"),
            ("selected ages", "bob #30 ann"),
            ("focus ages", "bob"),
            ("extend ages #20", "ok"),
            ("selected ages", "#20 bob"),
            ("select old cy", "ok"),
            ("selected old", "cy"),
            ("selected ages", "#20 bob"),
            ("select ages #30", "ok"),
            ("selected ages", "#30"),
            ("focus ages", "#30"),
            ("set ann age=20", "ok"),
            ("set cy age=20", "ok"),
            ("selected ages", "nothing"),
            ("focus ages", "cy"),
        )
        self.raises(console, "select ages #30", UnknownRow, row=("group", (30,)))
        self.raises(console, "extend ages zoe", UnknownRow, row="zoe")
        for line in ("select none ann", "extend none ann", "selected none", "focus none"):
            self.raises(console, line, UnknownView, label="none")

    def test_extend_alone_selects(self):
        console = some()
        self.check(console, ("extend old cy", "ok"), ("selected old", "cy"), ("focus old", "cy"))

    def test_until_the_view_is_closed(self):
        console = some()
        self.check(console, ("select top bob", "ok"), ("close top", "ok"))
        self.raises(console, "selected top", UnknownView, label="top")
        self.check(console, ("view top window - 0 9", "ok"), ("selected top", "nothing"), ("focus top", "nothing"))
        self.check(console, ("extend top bob", "ok"), ("selected top", "bob"), ("extend top ann", "ok"), ("selected top", "ann bob"))
        console.board.close("top")
        console.board.window("top", 0, 1)
        self.check(console, ("selected top", "nothing"), ("select top ann", "ok"), ("selected top", "ann"))

    def test_each_console_has_its_own(self):
        board = parse_board(TEXT)
        one, other = Console(board), Console(board)
        self.check(one, ("select old ann", "ok"))
        self.check(other, ("selected old", "nothing"), ("focus old", "nothing"))
        self.check(one, ("remove ann", "ok"), ("focus old", "cy"))
        self.check(other, ("focus old", "nothing"))


class QuestionsTest(ConsoleTest):
    def test_rows_and_values(self):
        console = some()
        self.check(
            console,
            ("rows ages", "#20 bob #30 ann cy"),
            ("rows old", "ann cy"),
            ("rows top", "#20 bob"),
            ("names", "ann bob cy"),
            ("value ages #30", "2"),
            ("value ages ann", "age=30 size=1"),
            ("value plus ann", "age=31 size=1"),
            ("value top bob", "age=20"),
        )
        self.raises(console, "value top ann", UnknownRow, row="ann")
        self.raises(console, "value ages #30,1", UnknownRow, row=("group", (30, 1)))
        self.raises(console, "value none ann", UnknownView, label="none")
        self.raises(console, "rows none", UnknownView, label="none")

    def test_nothing(self):
        console = Console()
        self.check(console, ("view a window - 0 9", "ok"), ("view b grouped - x", "ok"))
        self.check(console, ("names", "nothing"), ("rows a", "nothing"), ("rows b", "nothing"), ("selected b", "nothing"))
        self.check(console, ("told a", "nothing"), ("told -", "nothing"), ("focus b", "nothing"))

    def test_headers_as_words(self):
        console = Console(parse_board("record ann x=-1 y=20 z=0\nview a grouped - x y -z\nview b grouped - w -w"))
        self.check(console, ("rows a", "#-1,20,0 ann"), ("value a #-1,20,0", "1"), ("rows b", "#-1000,1000 ann"), ("value b #-1000,1000", "1"))
        console.board.grouped("c", lambda key, value: (9999, -9999))
        self.check(console, ("rows c", "#9999,-9999 ann"), ("select c #9999,-9999", "ok"), ("focus c", "#9999,-9999"))

    def test_told(self):
        console = some()
        self.check(console, ("told -", "nothing"), ("told ages", "nothing"), ("told old", "nothing"))
        self.check(console, ("insert 1 dan age=30", "ok"))
        self.check(console, ("told -", "insert 1 dan"), ("told old", "insert 1 dan"), ("told ages", "insert 4 dan / #30"), ("told top", "nothing"))
        self.check(console, ("set bob age=21", "ok"))
        self.check(console, ("told -", "nothing / bob"), ("told ages", "remove 0, insert 0 #21 / bob"), ("told old", "insert 1 dan"))
        self.check(console, ("remove dan", "ok"), ("told -", "remove 1"), ("move ann 2", "ok"))
        # Which one of two rows is moved past the other is left open.
        self.assertIn(console.run("told old"), ("move 0 1", "move 1 0"))
        self.check(console, ("told -", "move 0 2"))
        console.board.hold()
        self.check(console, ("set ann age=1", "ok"), ("set cy age=1", "ok"), ("remove bob", "ok"), ("told -", "move 0 2"))
        console.board.release()
        self.check(console, ("tell", "ok"), ("told -", "remove 0 / cy ann"), ("rows old", "nothing"), ("told old", "remove 1, remove 0"))
        self.raises(console, "told none", UnknownView, label="none")

    def test_part(self):
        console = Console()
        alike = ("age 3..5 / not not age 3..5", "[ann bob] / [bob ann ann]", "(a 1..2 or b 1..2) / (b 1..2 or a 1..2)", "[] / []")
        for line in alike:
            self.check(console, (f"part {line}", "alike"))
        parted = (
            ("age 3..5", "age 3..6"),
            ("[ann]", "[]"),
            ("(age 18..999 and not [bo])", "age 18..999"),
            ("(a 0..1 and b -5..5)", "not c 7..7"),
        )
        for one, other in parted:
            key, *words = console.run(f"part {one} / {other}").split(" ")
            self.assertTrue(is_parting(Condition.read(one), Condition.read(other), (key, read_value(words))))
        self.raises(console, "part age / age 1..2", InvalidText, value="age")
        self.raises(console, "part age 1..2 / age 2..1", InvalidText, value="age 2..1")
        self.raises(console, "part x / y", InvalidText, value="x")

    def test_finer(self):
        console = Console()
        self.check(console, ("finer age -size / age", "finer"), ("finer a a b / a -a b", "finer"))
        for one, other in (("age", "age size"), ("a", "-a"), ("b", "a"), ("a b", "b")):
            first, second = console.run(f"finer {one} / {other}").split(" / ")
            found = tuple([read_value(text.split(" ")) for text in (first, second)])
            self.assertTrue(is_order_parting(By.read(one), By.read(other), found))
        self.raises(console, "finer a b c d / a", InvalidText, value="a b c d")
        self.raises(console, "finer a / age 1..2", InvalidText, value="age 1..2")

    def test_text(self):
        self.check(Console(), ("text", ""))
        console = some()
        self.check(console, ("text", TEXT.replace("\n", " / ")))
        console.board.ordered("one", lambda key, value: 1)
        self.raises(console, "text", InvalidFunction, value="one")


class FormsTest(ConsoleTest):
    def test_lines_of_no_form(self):
        lines = """x|Tell|insert|insert 0|insert 0 dan|insert 100 dan a=1|insert -1 dan a=1|insert 00 dan a=1|insert 05 dan a=1
            insert 0 Dan a=1|insert 0 dandandan a=1|insert dan 0 a=1|insert 0 dan b=1 a=1|insert 0 dan a=1 a=1|insert 0 dan a=01
            insert 0 dan a=1000|insert 0 dan a|insert 0 dan a=|insert 0 dan a=-0|insert 0 dan a=1 b|insert 0 dan A=1
            insert 0 dan a=1 b=1 c=1 d=1 e=1 f=1 g=1|insert 0 #3 a=1|insert x dan a=1
            remove|remove Ann|remove ann bob|remove #20|remove -|move|move ann|move ann x|move ann -1|move ann 100|move ann 1 1
            move ann 01|move 1 ann|set|set ann|set ann 5|set Ann a=1|set ann a=1 5|set a=1
            view|view x|view x window|view x window -|view x window - 1|view x window - 1 1 1|view x window - 1 100
            view x window - -1 5|view x window - 01 5|view x window - a b|view x list - age|view X ordered - age
            view - ordered - age|view x ordered -- age|view x ordered -|view x Ordered - age
            view x ordered Ages age|view x window - (0, 1)|setting|setting ages|setting Ages age|setting - age
            setting top 1|setting top a b|setting top 1 2 3|setting top 1 100|setting top -1 5|setting top 00 5|setting top age
            close|close -|close Ages|close ages ages|tell -|tell ages|drop x|undo 1|redo 1|hold|release
            select|select ages|select ages #|select ages #x|select ages #1,|select ages #,1|select ages #1,,2|select ages #01
            select ages #-0|select ages #1,2,3,4|select ages #10000|select ages #-10000|select ages Ann|select ages ann bob
            select - ann|select Ages ann|select ages ##1|select ages #+1|select ages 30|select ages #1#2
            extend|extend ages|extend ages #x|extend ages ann ann|extend - ann
            rows|rows -|rows Ages|rows ages ages|selected|selected -|selected ages x|names -|names x|focus|focus -|focus ages x
            value|value ages|value - ann|value ages # 3|value ages ann x|value ages Ann|told|told --|told ages ages|told Ages
            part|part a 1..2|part /|part / a 1..2|part a 1..2 /|part a 1..2 / b 1..2 / c 1..2|part a 1..2 / / b 1..2
            finer|finer a|finer /|finer a /|finer / a|finer a / b / c|finer a/b|finer a / / b|view x ordered / age|text x|text -|texts|/"""
        console = some()
        found = [line.strip() for line in lines.replace("\n", "|").split("|")]
        self.assertGreater(len(found), 120)
        for line in found:
            with self.assertRaises(InvalidCommand, msg=line) as caught:
                console.run(line)
            self.assertIs(line, caught.exception.value)
        self.assertEqual(TEXT, board_text(console.board))

    def test_blanks(self):
        console = some()
        for line in ("tell", "rows ages", "insert 0 dan a=1", "part a 1..2 / b 1..2", "view x window - 1 2"):
            for other in (" " + line, line + " ", line + "\n", "\n" + line, line.replace(" ", "  "), line.replace(" ", "\n")):
                if other != line:
                    assert_raises(self, InvalidCommand, "value", other, console.run, other)
        for other in ("", " ", "\n"):
            assert_raises(self, InvalidCommand, "value", other, console.run, other)

    def test_values_that_are_no_lines(self):
        console = some()
        for value in any_values() + [["tell"], ("names",)]:
            assert_raises(self, InvalidCommand, "value", value, console.run, value)
            assert_raises(self, InvalidCommand, "value", value, console.run_all, value)
        self.assertEqual("ann bob cy", console.run(line="names"))

    def test_unknown_views_come_ahead_of_the_words_of_their_setting(self):
        console = some()
        for line in ("setting none 1", "setting none 1 2", "setting none / /"):
            self.raises(console, line, UnknownView, label="none")
        line = "".join(["setting top ", "1"])
        assert_raises(self, InvalidCommand, "value", line, console.run, line)
        self.raises(console, "setting ages 1 2", InvalidText, value="1 2")

    def test_forms_come_ahead_of_the_board(self):
        console = some()
        console.board.hold()
        for line in ("view ages window none 0 100", "select none #x", "close Ages"):
            assert_raises(self, InvalidCommand, "value", line, console.run, line)


class RunAllTest(ConsoleTest):
    def test_lines_are_one_turn(self):
        console = some()
        answers = console.run_all("remove ann", "names", "rows ages", "setting old age 1..20", "insert 0 dan age=5", "names")
        self.assertEqual(["ok", "bob cy", "#20 bob #30 ann cy", "ok", "ok", "dan bob cy"], answers)
        self.assertEqual((1, 0, False), (console.board.undo_count, console.board.pending, console.board.is_held))
        self.check(console, ("rows old", "dan bob"), ("undo", "ok"), ("rows old", "ann cy"))
        self.assertEqual([], console.run_all())
        self.assertEqual(["ann bob cy"], console.run_all("names"))

    def test_what_was_pending_is_told_too(self):
        console = some()
        with console.board.held():
            console.run("remove ann")
        self.assertEqual([], console.run_all())
        self.assertEqual((0, 1), (console.board.pending, console.board.undo_count))
        with console.board.held():
            console.run("remove bob")
        self.assertEqual(["ok"], console.run_all("remove cy"))
        self.assertEqual(([], 2), (console.board.names(), console.board.undo_count))

    def test_a_line_that_raises_an_exception(self):
        console = some()
        for line, error in (("remove zoe", UnknownKey), ("nonsense", InvalidCommand), ("setting old x", InvalidText)):
            with self.assertRaises(error):
                console.run_all("set ann age=1", line, "remove bob")
            self.assertEqual((1, False), (console.board.pending, console.board.is_held))
            self.check(console, ("rows old", "ann cy"), ("names", "ann bob cy"), ("drop", "ok"))

    def test_lines_that_cannot_be_run_in_a_hold(self):
        for line in ("tell", "undo", "redo", "close top", "view new window - 0 1", "text"):
            console = some()
            with self.assertRaises(Held):
                console.run_all("remove ann", line)
            self.assertEqual((1, False, ["bob", "cy"]), (console.board.pending, console.board.is_held, console.board.names()))

    def test_lines_that_can_be_run_in_a_hold(self):
        console = some()
        answers = console.run_all("remove ann", "drop", "select ages bob", "extend ages ann", "selected ages", "told -")
        self.assertEqual(["ok", "ok", "ok", "ok", "bob #30 ann", "nothing"], answers)
        self.assertEqual((["ann", "bob", "cy"], 0), (console.board.names(), console.board.undo_count))

    def test_another_hold_around_it(self):
        console = some()
        with console.board.held():
            with self.assertRaises(Held):
                console.run_all("remove ann", "remove bob")
            self.assertEqual((2, True), (console.board.pending, console.board.is_held))
            with self.assertRaises(Held):
                console.run_all()
        self.assertEqual((2, False), (console.board.pending, console.board.is_held))
        self.check(console, ("names", "cy"), ("rows old", "ann cy"), ("tell", "ok"), ("rows old", "cy"))

    def test_a_turn_that_is_refused(self):
        console = Console(Board([("ann", {"age": 1}), ("bob", {"age": 2})]))
        console.board.filtered("low", lambda key, value: value["age"] < 30 or None)
        with self.assertRaises(Refused):
            console.run_all("set ann age=30", "remove bob")
        self.assertEqual((2, False, ["ann", "bob"]), (console.board.pending, console.board.is_held, console.board.view_of("low").rows()))
        self.assertEqual(["ok"], console.run_all("set ann age=3"))
        self.check(console, ("rows low", "ann"), ("value low ann", "age=3"))

    def test_settings_are_shown_meanwhile(self):
        console = some()
        console.board.hold()
        console.run("setting old age 1..2")
        self.assertEqual(Between("age", low=1, high=2), console.board.view_of("old").setting)


if __name__ == "__main__":
    unittest.main()
