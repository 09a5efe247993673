"""[23]: texts of conditions, and reading them back."""

import random
import re
import unittest

from listviews.conditions import Between
from listviews.conditions import Both
from listviews.conditions import Condition
from listviews.conditions import Either
from listviews.conditions import Named
from listviews.conditions import Not
from listviews.errors import InvalidText
from listviews.errors import TooMany

from samples import any_values
from samples import assert_raises

LEAF = re.compile(r"([a-z]{1,8}) (0|-?[1-9][0-9]*)\.\.(0|-?[1-9][0-9]*)|\[((?:[a-z]{1,8}(?: [a-z]{1,8})*)?)\]")
JOINT = re.compile(r"\(([\ue000-\uefff]) (?:and|or) ([\ue000-\uefff])\)|not ([\ue000-\uefff])")


def is_text(text):
    """Tell by another way than the program's whether a condition has this text.

    One character comes in the place of each condition that is found, from the
    leaves on; its sizes are kept behind its number.
    """
    sizes = []

    def kept(leaves, depth, names):
        sizes.append((leaves, depth, names))
        return chr(0xE000 + len(sizes) - 1)

    def leaf(found):
        field, low, high, names = found.groups()
        if field is None:
            return kept(1, 1, len(names.split()))
        return kept(1, 1, 0) if -999 <= int(low) <= int(high) <= 999 else "?"

    def joint(found):
        parts = [sizes[ord(part) - 0xE000] for part in found.groups() if part]
        return kept(
            sum(part[0] for part in parts), max(part[1] for part in parts) + 1, sum(part[2] for part in parts)
        )

    if re.search("[^ -~]", text):
        return False
    text, before = LEAF.sub(leaf, text), None
    while text != before:
        text, before = JOINT.sub(joint, text), text
    if len(text) != 1 or not "\ue000" <= text <= "\uefff":
        return False
    leaves, depth, names = sizes[ord(text) - 0xE000]
    return leaves <= 6 and depth <= 5 and names <= 8


def nested(chooser, depth):
    """Any condition of at most this depth, with fields that look like words of texts."""
    kind = chooser.randrange(6 if depth > 1 else 2)
    fields = ("a", "not", "and", "or", "abcdefgh")
    if kind == 0:
        low, high = sorted(chooser.choice((-999, -10, -1, 0, 1, 5, 10, 999)) for _ in range(2))
        return Between(chooser.choice(fields), low=low, high=high)
    if kind == 1:
        return Named(*[chooser.choice(fields) for _ in range(chooser.randrange(3))])
    if kind in (2, 3):
        return Not(nested(chooser, depth - 1))
    one, other = nested(chooser, depth - 1), nested(chooser, depth - 1)
    try:
        return Both(one, other) if kind == 4 else Either(one, other)
    except TooMany:
        return one


SAMPLES = [
    "age 18..999",
    "not -3..5",
    "not not -1..0",
    "not not not 3..5",
    "[]",
    "[ann]",
    "[not and]",
    "(a 1..2 and b -1..0)",
    "(and 1..2 and and 1..2)",
    "(or 1..2 or or 1..2)",
    "(not 1..2 or not not 1..2)",
    "not (a 0..0 or [or])",
    "(not [] and not and 1..1)",
    "((a 1..2 or [b c]) and not (d 3..4 or e 5..6))",
]


class TextTest(unittest.TestCase):
    def test_texts_of_leaves(self):
        self.assertEqual("age 18..999", str(Between("age", low=18)))
        self.assertEqual("age -999..999", str(Between("age")))
        self.assertEqual("a -5..0", str(Between("a", low=-5, high=0)))
        self.assertEqual("a 0..0", str(Between("a", low=0, high=0)))
        self.assertEqual("[]", str(Named()))
        self.assertEqual("[ann]", str(Named("ann")))
        self.assertEqual("[bob ann bob]", str(Named("bob", "ann", "bob")))

    def test_texts_of_joined_conditions(self):
        one, other = Between("a", low=1, high=2), Named("b", "c")
        self.assertEqual("(a 1..2 and [b c])", str(Both(one, other)))
        self.assertEqual("([b c] or a 1..2)", str(Either(other, one)))
        self.assertEqual("not a 1..2", str(Not(one)))
        self.assertEqual("not not [b c]", str(Not(Not(other))))
        self.assertEqual("not (a 1..2 and (a 1..2 or not [b c]))", str(~(one & (one | ~other))))

    def test_fields_that_are_words_of_texts(self):
        self.assertEqual("not 3..5", str(Between("not", low=3, high=5)))
        self.assertEqual("not not 3..5", str(~Between("not", low=3, high=5)))
        self.assertEqual("(and 1..1 and or 2..2)", str(Between("and", low=1, high=1) & Between("or", low=2, high=2)))


class ReadTest(unittest.TestCase):
    def refuse(self, text):
        assert_raises(self, InvalidText, "value", text, Condition.read, text)

    def test_samples_are_read_back(self):
        for text in SAMPLES:
            with self.subTest(text):
                self.assertEqual(text, str(Condition.read(text)))

    def test_what_is_read(self):
        a, b = Between("a", low=1, high=2), Named("b", "c")
        self.assertEqual(a, Condition.read("a 1..2"))
        self.assertEqual(b, Condition.read("[b c]"))
        self.assertEqual(Named(), Condition.read("[]"))
        self.assertEqual(Both(a, b), Condition.read("(a 1..2 and [b c])"))
        self.assertEqual(Either(b, a), Condition.read("([b c] or a 1..2)"))
        self.assertEqual(Not(a), Condition.read(text="not a 1..2"))
        self.assertEqual(Not(Not(Between("not", low=3, high=5))), Condition.read("not not not 3..5"))
        words = Between("and", low=0, high=0) & (~Between("or", low=0, high=0) | Between("not", low=0, high=0))
        self.assertEqual(words, Condition.read("(and 0..0 and (not or 0..0 or not 0..0))"))

    def test_any_condition_is_read_back(self):
        chooser = random.Random(23)
        for _ in range(3000):
            condition = nested(chooser, 5)
            self.assertTrue(is_text(str(condition)))
            self.assertEqual(condition, Condition.read(str(condition)))

    def test_other_values_are_refused(self):
        for value in any_values():
            if not isinstance(value, str) or not is_text(value):
                self.refuse(value)
        self.refuse(Between("a"))
        self.refuse(["a 1..2"])

    def test_numbers_must_be_as_they_are_written(self):
        for text in ("a 01..2", "a 1..02", "a -0..2", "a 00..2", "a +1..2", "a 1..+2", "a 1.2", "a 1...2", "a 1..2..3"):
            self.refuse(text)
        for text in ("a ..2", "a 1..", "a ..", "a 1 .. 2", "a 1.. 2", "a 1", "a", "1..2", "a1..2", "a 1-2", "a -..2"):
            self.refuse(text)
        self.assertEqual(Between("a"), Condition.read("a -999..999"))
        for text in ("a -1000..2", "a 1..1000", "a 2..1", "a 0..-1", "a 1..2.", "a 1..b", "a 1..two", "a 9999..99999"):
            self.refuse(text)

    def test_names_must_be_names(self):
        for text in ("[A]", "[a b2]", "[abcdefghi]", "A 1..2", "abcdefghi 1..2", "a-b 1..2", "[a, b]", "[a [b]]"):
            self.refuse(text)
        for text in ("[a", "a]", "[a b", "[", "]", "[[a]]", "[]]", "[[]", "(a) 1..2", "[1..2]", "[a 1..2]"):
            self.refuse(text)
        self.assertEqual(Named("abcdefgh"), Condition.read("[abcdefgh]"))

    def test_spaces_must_be_as_they_are_written(self):
        for text in SAMPLES:
            for wrong in (" " + text, text + " ", text + "\n", "\n" + text, text.replace(" ", "  ")):
                if wrong != text:
                    self.refuse(wrong)
            for index, letter in enumerate(text):
                if letter == " ":
                    self.refuse(text[:index] + "\n" + text[index + 1 :])
        for text in ("[ ]", "[a ]", "[ a]", "[a  b]", "(a 1..2 and b 1..2 )", "( a 1..2 and b 1..2)", "(a 1..2and b 1..2)"):
            self.refuse(text)

    def test_brackets_must_be_as_they_are_written(self):
        for text in ("a 1..2 and b 1..2", "(a 1..2)", "((a 1..2 and b 1..2))", "not (a 1..2)", "(a 1..2 and b 1..2"):
            self.refuse(text)
        for text in ("a 1..2 and b 1..2)", "(a 1..2 and b 1..2 and c 1..2)", "()", "(", ")", "not", "not not", "(not)"):
            self.refuse(text)
        for text in ("(a 1..2 nor b 1..2)", "(a 1..2 not b 1..2)", "(a 1..2 b 1..2)", "(a 1..2 AND b 1..2)", "(and)"):
            self.refuse(text)
        for text in ("(a 1..2 and)", "(and b 1..2)", "(a 1..2 or or b 1..2)", "a 1..2 b 1..2", "[a] [b]", "not [a] b"):
            self.refuse(text)
        for text in ("[a b) and c]", "(a 1..2 and [b)]", "not(a 1..2 and b 1..2)", "not[a]", "(a 1..2 and b 1..2]"):
            self.refuse(text)

    def test_one_character_otherwise(self):
        letters = " \n()[].-0159anotrdZ,#"
        for text in SAMPLES:
            wrong = {text[:index] + text[index + 1 :] for index in range(len(text))}
            for index in range(len(text) + 1):
                wrong |= {text[:index] + letter + text[index:] for letter in letters}
                wrong |= {text[:index] + letter + text[index + 1 :] for letter in letters}
            self.check(wrong)

    def test_one_word_otherwise(self):
        words = ["not", "and", "or", "a", "1..2", "-1..0", "[a]", "[]", "(", ")", "(a", "2..3)", "[b", "c]", ""]
        for text in SAMPLES:
            parts = text.split(" ")
            wrong = {" ".join(parts[:index] + parts[index + 1 :]) for index in range(len(parts))}
            for index in range(len(parts) + 1):
                wrong |= {" ".join(parts[:index] + [word] + parts[index:]) for word in words}
                wrong |= {" ".join(parts[:index] + [word] + parts[index + 1 :]) for word in words}
            self.check(wrong)

    def check(self, texts):
        for text in sorted(texts):
            if is_text(text):
                self.assertEqual(text, str(Condition.read(text)))
            else:
                self.refuse(text)

    def test_limits(self):
        six = "((a 1..1 and (a 1..1 and [])) and ([] or ([] and a 2..2)))"
        self.assertEqual(6, Condition.read(six).leaves())
        self.refuse(f"({six} and [])")
        self.refuse("((a 1..1 and (a 1..1 and [])) and (([] or []) or ([] and a 2..2)))")
        self.assertEqual(5, Condition.read("not not not not a 1..1").depth())
        self.refuse("not not not not not a 1..1")
        self.assertEqual(5, Condition.read("not not not not not 1..1").depth())
        self.assertEqual(5, Condition.read("(a 1..1 and (a 1..1 and (a 1..1 and (a 1..1 and a 1..1))))").depth())
        self.refuse("(a 1..1 and (a 1..1 and (a 1..1 and (a 1..1 and not a 1..1))))")
        self.assertEqual(tuple("abcdefgh"), Condition.read("[a b c d e f g h]").accepted)
        self.refuse("[a b c d e f g h i]")
        self.assertEqual(2, Condition.read("([a b c d] or not [a b c d])").leaves())
        self.refuse("([a b c d] or not [a b c d e])")

    def test_the_longest_text(self):
        leaf = "abcdefgh -999..-999"
        text = f"((({leaf} and {leaf}) and ({leaf} and {leaf})) and not ({leaf} and {leaf}))"
        self.assertEqual(text, str(Condition.read(text)))

    def test_all_letters_are_read(self):
        text = "(([abcdefgh ijklmnop] and qrstuvwx -123..456) or yz -987..-654)"
        self.assertEqual(text, str(Condition.read(text)))

    def test_long_texts_are_refused(self):
        parts = ["([]or", "(a 1..2and", "([] and ", "not[] ", "(", ")", "[", "]", "not ", "a ", "not(", "(not ", "[]", "()", "(a 1..2 and ", "1..2 ", "..", "-", " "]
        parts += ["\n", "not 1..2 ", "[a] or ", "a", "0", "(((a 1..2 and b 1..2) or ", "[a "]
        for part in parts:
            for count in (7, 1000, 4000 // len(part)):
                text = (part * count)[:4000]
                self.check([text, text[:3993] + "a 1..2"])
        self.refuse("(" * 1000 + "a 1..2" + ")" * 1000)
        self.refuse("[" * 1000 + "a" + "]" * 1000)
        self.refuse("(" * 500 + "a 1..2" + " and b 1..2)" * 250)
        self.refuse("[" + "a " * 1999 + "]")
        self.refuse("a 1.." + "9" * 3995)
        self.refuse("a " + "9" * 3990 + "..5")
        self.refuse("a" * 3994 + " 1..2")


if __name__ == "__main__":
    unittest.main()
