"""[8], [11]: the exception classes, their bases and their fields."""

import unittest

from listviews import errors

BASES = {"BoardError": ValueError, "MissingError": KeyError, "StateError": LookupError}

# As the interface lists them.
FIELDS = {
    "BoardError": """
        InvalidInteger(value), InvalidName(value), InvalidValue(value), InvalidAnswer(value),
        InvalidCondition(value), InvalidOrder(value), InvalidChange(value), InvalidRows(value),
        InvalidSteps(value), InvalidRecords(value), InvalidFunction(value), InvalidBoard(value),
        InvalidView(value), InvalidText(value), InvalidLine(index), InvalidCommand(value),
        TooMany(count), Mismatch(value), NotPlain(label)
    """,
    "MissingError": "UnknownKey(key), UnknownRow(row), UnknownView(label), UnknownName(label)",
    "StateError": """
        KeyTaken(key), NameTaken(label), NotPossible(index), Refused(label, row), Busy(), Held(),
        NotHeld(), InUse(label), NothingToUndo(), NothingToRedo()
    """,
}


def listed():
    """The tuples (base, name, fields) of all classes that have a base of the package."""
    found = []
    for base, text in FIELDS.items():
        for entry in text.replace("\n", " ").strip().rstrip(")").split("),"):
            name, _, fields = entry.strip().partition("(")
            found.append((base, name, [field for field in fields.split(", ") if field]))
    return found


class ErrorsTest(unittest.TestCase):
    def test_the_interface_lists_33_classes(self):
        self.assertEqual(33, len(listed()))

    def test_the_bases_have_one_base_of_pythons_own(self):
        for name, base in BASES.items():
            with self.subTest(name):
                self.assertEqual((base,), getattr(errors, name).__bases__)

    def test_the_bases_are_made_with_one_string(self):
        for name in BASES:
            with self.subTest(name):
                error = getattr(errors, name)("so it is")
                self.assertIn("so it is", str(error))

    def test_each_class_is_directly_under_one_base(self):
        for base, name, _ in listed():
            with self.subTest(name):
                self.assertEqual((getattr(errors, base),), getattr(errors, name).__bases__)

    def test_each_class_is_defined_in_this_file_and_there_are_no_others(self):
        defined = {name for name, item in vars(errors).items() if isinstance(item, type)}
        self.assertEqual(set(BASES) | {name for _, name, _ in listed()}, defined)
        for name in defined:
            self.assertEqual("listviews.errors", getattr(errors, name).__module__)

    def test_fields_hold_the_very_objects_passed_by_position(self):
        for _, name, fields in listed():
            with self.subTest(name):
                passed = [[field] for field in fields]
                error = getattr(errors, name)(*passed)
                for field, item in zip(fields, passed):
                    self.assertIs(item, getattr(error, field))

    def test_fields_hold_the_very_objects_passed_by_name(self):
        for _, name, fields in listed():
            with self.subTest(name):
                passed = {field: {field: 1} for field in fields}
                error = getattr(errors, name)(**passed)
                for field in fields:
                    self.assertIs(passed[field], getattr(error, field))

    def test_any_values_are_fields_and_the_text_is_a_string(self):
        for _, name, fields in listed():
            for item in (None, True, -1, "", [[]], {1: ()}, self, len):
                with self.subTest(name, item=item):
                    error = getattr(errors, name)(*[item for _ in fields])
                    for field in fields:
                        self.assertIs(item, getattr(error, field))
                    self.assertIsInstance(str(error), str)
                    self.assertIsInstance(repr(error), str)

    def test_a_class_with_fields_needs_each_of_them(self):
        for _, name, fields in listed():
            if fields:
                with self.subTest(name), self.assertRaises(TypeError):
                    getattr(errors, name)(*fields[1:])

    def test_each_is_raised_and_caught_by_its_base(self):
        for base, name, fields in listed():
            with self.subTest(name), self.assertRaises(BASES[base]):
                raise getattr(errors, name)(*fields)


if __name__ == "__main__":
    unittest.main()
