"""Conditions on records: leaves, what they are joined to, and what parts two of them."""

from listviews.candidates import candidate_records
from listviews.checks import need_integer
from listviews.checks import need_name
from listviews.checks import need_record
from listviews.condition_texts import tree_of
from listviews.errors import BoardError
from listviews.errors import InvalidCondition
from listviews.errors import InvalidText
from listviews.errors import TooMany
from listviews.values import is_name
from listviews.values import is_value

MOST_LEAVES = 6
MOST_DEPTH = 5
MOST_NAMES = 8


class Condition:
    """What all five kinds of conditions have in common: three sizes within limits."""

    def __init__(self, leaf_count, height, name_count):
        if leaf_count > MOST_LEAVES:
            raise TooMany(leaf_count)
        if height > MOST_DEPTH:
            raise TooMany(height)
        if name_count > MOST_NAMES:
            raise TooMany(name_count)
        self.leaf_count = leaf_count
        self.height = height
        self.name_count = name_count

    @staticmethod
    def read(text):
        """Return the condition with this text."""
        if not isinstance(text, str):
            raise InvalidText(text)
        try:
            condition = built(tree_of(text, MOST_DEPTH))
        except BoardError:
            raise InvalidText(text) from None
        # Blanks, needless zeros and words behind the condition show here alone.
        if str(condition) != text:
            raise InvalidText(text)
        return condition


class Leaf:
    """What conditions without parts have in common."""

    def all_leaves(self):
        """Return the list of the leaves."""
        return [self]


class Pair:
    """What conditions with two parts, `first` and `second`, have in common."""

    def all_leaves(self):
        """Return the list of the leaves."""
        return self.first.all_leaves() + self.second.all_leaves()


class Between(Leaf, Condition):
    """Holds if the value has the field, with an integer from low to high."""

    def __init__(self, field, *, low=-999, high=999):
        need_name(field)
        need_integer(low, -999, 999)
        need_integer(high, low, 999)
        super().__init__(1, 1, 0)
        self.field_name = field
        self.lowest = low
        self.highest = high

    @property
    def field(self):
        """The field."""
        return self.field_name

    @property
    def low(self):
        """The lowest integer for which the condition holds."""
        return self.lowest

    @property
    def high(self):
        """The highest integer for which the condition holds."""
        return self.highest

    def __call__(self, key, value):
        need_record(key, value)
        return self.holds(key, value)

    def holds(self, key, value):
        """Return True if the condition holds for a record that has been checked."""
        return self.field_name in value and self.lowest <= value[self.field_name] <= self.highest

    def leaves(self):
        """Return the number of leaves."""
        return self.leaf_count

    def depth(self):
        """Return the depth."""
        return self.height

    def __and__(self, other):
        return Both(self, other)

    def __or__(self, other):
        return Either(self, other)

    def __invert__(self):
        return Not(self)

    def __eq__(self, other):
        return (
            isinstance(other, Between)
            and self.field_name == other.field_name
            and self.lowest == other.lowest
            and self.highest == other.highest
        )

    def __str__(self):
        return f"{self.field_name} {self.lowest}..{self.highest}"


class Named(Leaf, Condition):
    """Holds if the key is one of the names."""

    def __init__(self, *names):
        super().__init__(1, 1, len(names))
        for name in names:
            need_name(name)
        self.accepted_names = names

    @property
    def accepted(self):
        """The tuple of the names."""
        return self.accepted_names

    def __call__(self, key, value):
        need_record(key, value)
        return self.holds(key, value)

    def holds(self, key, value):
        """Return True if the condition holds for a record that has been checked."""
        return key in self.accepted_names

    def leaves(self):
        """Return the number of leaves."""
        return self.leaf_count

    def depth(self):
        """Return the depth."""
        return self.height

    def __and__(self, other):
        return Both(self, other)

    def __or__(self, other):
        return Either(self, other)

    def __invert__(self):
        return Not(self)

    def __eq__(self, other):
        return isinstance(other, Named) and self.accepted_names == other.accepted_names

    def __str__(self):
        return f"[{' '.join(self.accepted_names)}]"


class Both(Pair, Condition):
    """Holds if both parts hold."""

    def __init__(self, one, other):
        sizes = sizes_of_pair(one, other)
        super().__init__(*sizes)
        self.first = one
        self.second = other

    @property
    def one(self):
        """The first part."""
        return self.first

    @property
    def other(self):
        """The second part."""
        return self.second

    def __call__(self, key, value):
        need_record(key, value)
        return self.holds(key, value)

    def holds(self, key, value):
        """Return True if the condition holds for a record that has been checked."""
        return self.first.holds(key, value) and self.second.holds(key, value)

    def leaves(self):
        """Return the number of leaves."""
        return self.leaf_count

    def depth(self):
        """Return the depth."""
        return self.height

    def __and__(self, other):
        return Both(self, other)

    def __or__(self, other):
        return Either(self, other)

    def __invert__(self):
        return Not(self)

    def __eq__(self, other):
        return isinstance(other, Both) and self.first == other.first and self.second == other.second

    def __str__(self):
        return f"({self.first} and {self.second})"


class Either(Pair, Condition):
    """Holds if at least one of the parts holds."""

    def __init__(self, one, other):
        sizes = sizes_of_pair(one, other)
        super().__init__(*sizes)
        self.first = one
        self.second = other

    @property
    def one(self):
        """The first part."""
        return self.first

    @property
    def other(self):
        """The second part."""
        return self.second

    def __call__(self, key, value):
        need_record(key, value)
        return self.holds(key, value)

    def holds(self, key, value):
        """Return True if the condition holds for a record that has been checked."""
        return self.first.holds(key, value) or self.second.holds(key, value)

    def leaves(self):
        """Return the number of leaves."""
        return self.leaf_count

    def depth(self):
        """Return the depth."""
        return self.height

    def __and__(self, other):
        return Both(self, other)

    def __or__(self, other):
        return Either(self, other)

    def __invert__(self):
        return Not(self)

    def __eq__(self, other):
        return isinstance(other, Either) and self.first == other.first and self.second == other.second

    def __str__(self):
        return f"({self.first} or {self.second})"


class Not(Condition):
    """Holds if its part does not hold."""

    def __init__(self, one):
        need_condition(one)
        super().__init__(one.leaf_count, one.height + 1, one.name_count)
        self.inner = one

    @property
    def one(self):
        """The part."""
        return self.inner

    def __call__(self, key, value):
        need_record(key, value)
        return self.holds(key, value)

    def holds(self, key, value):
        """Return True if the condition holds for a record that has been checked."""
        return not self.inner.holds(key, value)

    def all_leaves(self):
        """Return the list of the leaves."""
        return self.inner.all_leaves()

    def leaves(self):
        """Return the number of leaves."""
        return self.leaf_count

    def depth(self):
        """Return the depth."""
        return self.height

    def __and__(self, other):
        return Both(self, other)

    def __or__(self, other):
        return Either(self, other)

    def __invert__(self):
        return Not(self)

    def __eq__(self, other):
        return isinstance(other, Not) and self.inner == other.inner

    def __str__(self):
        return f"not {self.inner}"


def need_condition(value):
    """Raise InvalidCondition unless the value is a condition."""
    if not isinstance(value, Condition):
        raise InvalidCondition(value)


def sizes_of_pair(one, other):
    """Return the tuple of the three sizes of a condition with these parts."""
    need_condition(one)
    need_condition(other)
    leaf_count = one.leaf_count + other.leaf_count
    height = max(one.height, other.height) + 1
    return (leaf_count, height, one.name_count + other.name_count)


def built(tree):
    """Return the condition that a tree states."""
    kind, *parts = tree
    if kind == "between":
        return Between(parts[0], low=parts[1], high=parts[2])
    if kind == "named":
        return Named(*parts)
    inner = [built(part) for part in parts]
    if kind == "not":
        return Not(*inner)
    return Both(*inner) if kind == "and" else Either(*inner)


def parting(one, other):
    """Return a record for which just one of two conditions holds, or None."""
    need_condition(one)
    need_condition(other)
    leaves = one.all_leaves() + other.all_leaves()
    bounds = [(leaf.field, leaf.low, leaf.high) for leaf in leaves if isinstance(leaf, Between)]
    groups = [leaf.accepted for leaf in leaves if isinstance(leaf, Named)]
    for key, value in candidate_records(bounds, groups):
        if one.holds(key, value) != other.holds(key, value):
            return (key, value)
    return None


def is_parting(one, other, found):
    """Return True if just one of two conditions holds for the record that was found."""
    need_condition(one)
    need_condition(other)
    if not isinstance(found, tuple) or len(found) != 2:
        return False
    key, value = found
    if not is_name(key) or not is_value(value):
        return False
    return one.holds(key, value) != other.holds(key, value)
