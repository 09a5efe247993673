"""Texts of conditions, taken apart into trees.

A tree is one of the tuples ("between", field, low, high), ("named", name, ..),
("not", tree), ("and", tree, tree) and ("or", tree, tree). It may state what no
condition has, such as a name that is none or a bound that is None: whoever
builds the condition refuses it.
"""

from listviews.errors import InvalidText
from listviews.values import parse_integer


class ConditionWords:
    """The words of a text, read from left to right; each bracket is a word."""

    def __init__(self, text):
        self.text = text
        self.words = words_of(text)
        self.at = 0

    def ahead(self):
        """Return the word that is read next, or the empty string at the end."""
        return self.words[self.at] if self.at < len(self.words) else ""

    def read_word(self):
        """Read a word and return it."""
        word = self.ahead()
        if word == "":
            raise InvalidText(self.text)
        self.at += 1
        return word

    def read_tree(self, depth):
        """Read a tree of at most this depth and return it."""
        # A text of brackets alone must not lead into a recursion of its length.
        if depth == 0:
            raise InvalidText(self.text)
        word = self.read_word()
        if word == "(":
            return self.read_pair(depth)
        if word == "[":
            return self.read_names()
        # A field may be called "not": only the bounds behind it tell.
        if ".." in self.ahead():
            return self.read_bounds(word)
        if word == "not":
            return ("not", self.read_tree(depth - 1))
        raise InvalidText(self.text)

    def read_pair(self, depth):
        """Read what stands behind an opening bracket, and return the tree."""
        one = self.read_tree(depth - 1)
        joint = self.read_word()
        other = self.read_tree(depth - 1)
        if joint not in ("and", "or") or self.read_word() != ")":
            raise InvalidText(self.text)
        return (joint, one, other)

    def read_names(self):
        """Read what stands behind an opening square bracket, and return the tree."""
        names = []
        word = self.read_word()
        while word != "]":
            names.append(word)
            word = self.read_word()
        return ("named", *names)

    def read_bounds(self, field):
        """Read the bounds behind a field, and return the tree."""
        low, dots, high = self.read_word().partition("..")
        return ("between", field, parse_integer(low), parse_integer(high))


def words_of(text):
    """Return the words of a text; each bracket is a word of its own."""
    for bracket in "()[]":
        text = text.replace(bracket, f" {bracket} ")
    return text.split()


def tree_of(text, depth):
    """Return a tree of at most this depth for a text with the words of a condition.

    Blanks are passed over, also where they are too many or missing: only the
    text of the finished condition shows whether they were right.
    """
    words = ConditionWords(text)
    return words.read_tree(depth)
