"""Each example of the document, word for word."""

import unittest
from pathlib import Path

from copyrates.errors import RatesError

EXAMPLES = Path(__file__).with_name("examples.txt")


def examples():
    """The examples as pairs: the lines behind >>>, and the line that they give."""
    found = []
    lines = []
    for row in EXAMPLES.read_text(encoding="utf-8").splitlines():
        if row.startswith(">>> "):
            lines.append(row[4:])
        elif lines:
            found.append((lines, row))
            lines = []
    return found


def outcome(lines):
    names = {}
    try:
        exec("\n".join(lines[:-1]), names)
        return repr(eval(lines[-1], names))
    except RatesError as error:
        return f"raises {type(error).__name__}({', '.join(repr(x) for x in vars(error).values())})"


class Examples(unittest.TestCase):
    def test_examples(self):
        for lines, wanted in examples():
            with self.subTest(lines[-1]):
                self.assertEqual(outcome(lines), wanted)

    def test_number_of_examples(self):
        self.assertEqual(len(examples()), 36)


if __name__ == "__main__":
    unittest.main()
