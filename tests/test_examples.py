"""The examples of the document, where it stands beside the repository."""

import re
import unittest
from pathlib import Path

DOCUMENT = Path(__file__).resolve().parent.parent.parent / "shared" / "DOC.md"


def examples():
    """Yields the examples of the document: their lines, and the row that they answer."""
    for block in re.findall(r"```\n(>>> .*?)```", DOCUMENT.read_text(encoding="utf-8"), re.DOTALL):
        for example in block.strip().split("\n\n"):
            *lines, answer = example.split("\n")
            yield [line.removeprefix(">>> ") for line in lines], answer


def answer_to(lines):
    """Returns what the last line gives, as the document writes it."""
    names = {}
    exec("\n".join(lines[:-1]), names)
    try:
        return repr(eval(lines[-1], names))
    except Exception as error:
        fields = ", ".join(f"{name}={value!r}" for name, value in vars(error).items())
        return f"raises {type(error).__name__}({fields})"


@unittest.skipUnless(DOCUMENT.exists(), "the document is not here")
class ExamplesTest(unittest.TestCase):
    def test_examples(self):
        found = list(examples())
        self.assertGreaterEqual(len(found), 20)
        for lines, answer in found:
            self.assertEqual(answer_to(lines), answer, lines)


if __name__ == "__main__":
    unittest.main()
