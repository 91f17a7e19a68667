"""The examples of the document, each with just the value that stands there, and those of README.md."""

import doctest
import re
import unittest
from pathlib import Path

FOLDER = Path(__file__).parent / "examples"
EXAMPLES = sorted(path.name for path in FOLDER.glob("*.txt"))
DOCUMENT = Path(__file__).parent.parent.parent / "shared" / "DOC.md"


class ExamplesTest(unittest.TestCase):
    def test_all_of_the_document_are_here(self):
        if not DOCUMENT.exists():
            self.skipTest("the document is not here")
        blocks = re.findall(r"^```\n(.*?)^```", DOCUMENT.read_text(encoding="utf-8"), re.S | re.M)
        self.assertEqual(sorted(blocks), sorted((FOLDER / name).read_text(encoding="utf-8") for name in EXAMPLES))


def load_tests(loader, tests, pattern):
    """One test for each file of examples."""
    for name in EXAMPLES:
        tests.addTest(doctest.DocFileSuite("examples/" + name, optionflags=doctest.DONT_ACCEPT_TRUE_FOR_1))
    tests.addTest(doctest.DocFileSuite("../README.md"))
    return tests
