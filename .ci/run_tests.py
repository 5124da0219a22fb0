"""Runs all tests of a folder, those in folders below it too; fails if one fails or there is none."""

import os
import sys
import unittest


def folders_with_tests(top):
    """The folders from this one on that hold a test, each once."""
    return [folder for folder, _, names in sorted(os.walk(top))
            if any(name.startswith("test_") and name.endswith(".py") for name in names)]


def main(top):
    suite = unittest.TestSuite()
    for folder in folders_with_tests(top):
        suite.addTests(unittest.TestLoader().discover(folder, pattern="test_*.py", top_level_dir=folder))
    result = unittest.TextTestRunner(stream=sys.stdout, verbosity=1).run(suite)
    failed = len(result.failures) + len(result.errors) + len(result.unexpectedSuccesses)
    skipped = len(result.skipped)
    print(f"{max(0, result.testsRun - failed - skipped)} passed, {failed} failed, {skipped} skipped")
    return 0 if result.wasSuccessful() and result.testsRun > 0 else 1


if __name__ == "__main__":
    sys.exit(main(sys.argv[1]))
