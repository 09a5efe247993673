"""Each example of the document, word for word: one file of tests/examples for each stage."""

import doctest
import importlib
import pathlib
import unittest

TESTS = pathlib.Path(__file__).resolve().parent
PACKAGE = TESTS.parent / "listviews"
DOCUMENT = TESTS.parent.parent / "shared" / "DOC.md"


def all_names():
    """The names that an example may use without an import line."""
    names = {}
    for path in sorted(PACKAGE.glob("[a-z]*.py")):
        module = importlib.import_module(f"listviews.{path.stem}")
        for name, item in vars(module).items():
            if getattr(item, "__module__", None) == module.__name__:
                names[name] = item
    return names


def outcome(source, names):
    """What Python's own prompt shows for an example, or its `raises` line."""
    try:
        value = eval(source, names) if is_expression(source) else exec(source, names)
    except Exception as error:
        return f"raises {error.__class__.__name__}"
    return "" if value is None else repr(value)


def is_expression(source):
    try:
        compile(source, "example", "eval")
    except SyntaxError:
        return False
    return True


class ExamplesTest(unittest.TestCase):
    def test_examples(self):
        for path in sorted((TESTS / "examples").glob("*.txt")):
            names = all_names()
            examples = doctest.DocTestParser().get_examples(path.read_text())
            self.assertTrue(examples)
            for example in examples:
                with self.subTest(path.name, line=example.lineno + 1):
                    self.assertEqual(example.want.strip(), outcome(example.source.strip(), names))

    def test_examples_are_those_of_the_document(self):
        if not DOCUMENT.exists():
            self.skipTest("the document is not there")
        text = DOCUMENT.read_text()
        stages = {part.partition(":")[0]: part for part in text.split("\n## Stage ")[1:]}
        for path in sorted((TESTS / "examples").glob("*.txt")):
            with self.subTest(path.name):
                part = stages[path.stem.removeprefix("stage_")]
                blocks = path.read_text().rstrip("\n").split("\n\n")
                for block in blocks:
                    self.assertIn(f"\n{block}\n", part)
                self.assertEqual(part.count(">>> "), sum(block.count(">>> ") for block in blocks))


if __name__ == "__main__":
    unittest.main()
