"""Run the tests in some folders, those that exist and hold a file test_*.py, and say how many passed and failed."""

import glob
import os
import sys
import unittest


def main(folders):
    passed = failed = 0
    for folder in folders:
        if not glob.glob(os.path.join(folder, "test_*.py")):
            print(f"{folder}: no tests", flush=True)
            continue
        print(f"{folder}: by Python {sys.version.split()[0]}", flush=True)
        suite = unittest.TestLoader().discover(folder, pattern="test_*.py", top_level_dir=folder)
        result = unittest.TextTestRunner(verbosity=1).run(suite)
        wrong = len(result.failures) + len(result.errors) + len(result.unexpectedSuccesses)
        passed += max(result.testsRun - wrong, 0)
        failed += wrong
    print(f"{passed} passed, {failed} failed", flush=True)
    return 1 if failed or not passed else 0


if __name__ == "__main__":
    sys.exit(main(sys.argv[1:]))
