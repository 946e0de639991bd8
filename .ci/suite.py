"""Run the tests in a folder's files test_*.py, and say how many passed and failed."""

import os
import sys
import unittest


def main(folder):
    print(f"{folder}: by Python {sys.version.split()[0]}", flush=True)
    folder = os.path.abspath(folder)
    suite = unittest.TestLoader().discover(folder, pattern="test_*.py", top_level_dir=folder)
    result = unittest.TextTestRunner(verbosity=1).run(suite)
    failed = len(result.failures) + len(result.errors) + len(result.unexpectedSuccesses)
    passed = max(result.testsRun - failed, 0)
    print(f"{passed} passed, {failed} failed", flush=True)
    return 1 if failed or not passed else 0


if __name__ == "__main__":
    sys.exit(main(sys.argv[1]))
