"""What a turn performs, and the holds that keep operations from being performed."""


class Turn:
    """So many operations on a list, and by which records and settings they replace which.

    The settings are dicts by the names of the views whose settings the operations set.
    """

    def __init__(self, old_records, new_records, old_settings, new_settings, operations):
        self.old_records = old_records
        self.new_records = new_records
        self.old_settings = old_settings
        self.new_settings = new_settings
        self.operations = operations

    def with_records(self, records):
        """Return the turn with one more operation, which leads to these records."""
        return Turn(self.old_records, records, self.old_settings, self.new_settings, self.operations + 1)

    def with_setting(self, name, old, new):
        """Return the turn with one more operation, which gives a view another setting."""
        # Of several operations on one setting the first one knows what was there before the turn.
        old_settings = {name: old, **self.old_settings}
        new_settings = {**self.new_settings, name: new}
        return Turn(self.old_records, self.new_records, old_settings, new_settings, self.operations + 1)

    def taken_back(self):
        """Return the turn that leads back."""
        return Turn(self.new_records, self.old_records, self.new_settings, self.old_settings, self.operations)


class Hold:
    """A hold for one block of a `with` statement."""

    def __init__(self, owner):
        self.owner = owner
        self.count_before = 0

    def __enter__(self):
        self.count_before = self.owner.hold_count
        self.owner.hold()

    def __exit__(self, kind, value, trace):
        # The block may have begun holds of its own, or released some.
        self.owner.hold_count = self.count_before


def no_operations(records):
    """Return the turn that leaves records and settings as they are."""
    return Turn(records, records, {}, {}, 0)
