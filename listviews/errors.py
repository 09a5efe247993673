"""All exceptions of the package: three bases, and the classes directly under them."""


class BoardError(ValueError):
    """The base of all errors for invalid arguments."""


class MissingError(KeyError):
    """The base of all errors for unknown keys, rows and names."""


class StateError(LookupError):
    """The base of all errors for operations that are not possible now."""


class InvalidInteger(BoardError):
    """The value is not an integer between the bounds."""

    def __init__(self, value):
        self.value = value


class InvalidName(BoardError):
    """The value is not a name."""

    def __init__(self, value):
        self.value = value


class InvalidValue(BoardError):
    """The value is not the value of a record."""

    def __init__(self, value):
        self.value = value


class InvalidAnswer(BoardError):
    """The value is not an answer."""

    def __init__(self, value):
        self.value = value


class InvalidCondition(BoardError):
    """The value is not a condition."""

    def __init__(self, value):
        self.value = value


class InvalidOrder(BoardError):
    """The value is not an order, or not the fields of one."""

    def __init__(self, value):
        self.value = value


class InvalidChange(BoardError):
    """The value is not a change, or not what a change is made of."""

    def __init__(self, value):
        self.value = value


class InvalidRows(BoardError):
    """The value is not a list of rows."""

    def __init__(self, value):
        self.value = value


class InvalidSteps(BoardError):
    """The value is not a list of steps."""

    def __init__(self, value):
        self.value = value


class InvalidRecords(BoardError):
    """The value is not a list of records, or not one of its items."""

    def __init__(self, value):
        self.value = value


class InvalidFunction(BoardError):
    """The value is not a function."""

    def __init__(self, value):
        self.value = value


class InvalidBoard(BoardError):
    """The value is not a board."""

    def __init__(self, value):
        self.value = value


class InvalidView(BoardError):
    """The value is not a view."""

    def __init__(self, value):
        self.value = value


class InvalidText(BoardError):
    """The value is not a text of what is read."""

    def __init__(self, value):
        self.value = value


class InvalidLine(BoardError):
    """The line with this index is not a line of a board's text."""

    def __init__(self, index):
        self.index = index


class InvalidCommand(BoardError):
    """The value is not a command line."""

    def __init__(self, value):
        self.value = value


class TooMany(BoardError):
    """There would be so many, and fewer are allowed."""

    def __init__(self, count):
        self.count = count


class Mismatch(BoardError):
    """The value does not fit a change."""

    def __init__(self, value):
        self.value = value


class NotPlain(BoardError):
    """The view with this name has headers."""

    def __init__(self, label):
        self.label = label


class UnknownKey(MissingError):
    """No record has this key."""

    def __init__(self, key):
        self.key = key


class UnknownRow(MissingError):
    """There is no such row."""

    def __init__(self, row):
        self.row = row


class UnknownView(MissingError):
    """No view has this name."""

    def __init__(self, label):
        self.label = label


class UnknownName(MissingError):
    """Nothing of the kind has this name."""

    def __init__(self, label):
        self.label = label


class KeyTaken(StateError):
    """There is already a record or a row like this."""

    def __init__(self, key):
        self.key = key


class NameTaken(StateError):
    """There is already a view with this name."""

    def __init__(self, label):
        self.label = label


class NotPossible(StateError):
    """The step with this index is not possible."""

    def __init__(self, index):
        self.index = index


class Refused(StateError):
    """A function of the view gave, for the row, a result that is refused."""

    def __init__(self, label, row):
        self.label = label
        self.row = row


class Busy(StateError):
    """A function of a view is being called."""


class Held(StateError):
    """Operations are pending, or a hold lasts."""


class NotHeld(StateError):
    """No hold lasts."""


class InUse(StateError):
    """The view with this name is the parent of a view."""

    def __init__(self, label):
        self.label = label


class NothingToUndo(StateError):
    """There is no turn to take back."""


class NothingToRedo(StateError):
    """There is no turn to perform again."""
