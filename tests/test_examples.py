"""The examples of the document, each with just the value that stands there, and those of README.md."""

import doctest
from pathlib import Path

EXAMPLES = sorted(path.name for path in (Path(__file__).parent / "examples").glob("*.txt"))


def load_tests(loader, tests, pattern):
    """One test for each file of examples."""
    for name in EXAMPLES:
        tests.addTest(doctest.DocFileSuite("examples/" + name))
    tests.addTest(doctest.DocFileSuite("../README.md"))
    return tests
