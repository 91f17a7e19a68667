"""The examples of the document, each with just the value that stands there, and those of README.md."""

import doctest
from pathlib import Path

FOLDER = Path(__file__).parent / "examples"
EXAMPLES = sorted(path.name for path in FOLDER.glob("*.txt"))


def load_tests(loader, tests, pattern):
    """One test for each file of examples."""
    for name in EXAMPLES:
        tests.addTest(doctest.DocFileSuite("examples/" + name, optionflags=doctest.DONT_ACCEPT_TRUE_FOR_1))
    tests.addTest(doctest.DocFileSuite("../README.md"))
    return tests
