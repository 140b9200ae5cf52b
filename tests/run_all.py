"""Runs every test of the project and every shared test; the last row counts them."""

import pathlib
import sys
import unittest

ROOT = pathlib.Path(__file__).resolve().parent.parent
OWN = ROOT / "tests"
SHARED = ROOT.parent / "shared" / "tests"


class Counted(unittest.TextTestResult):
    """A result that counts tests, not their subtests."""

    def __init__(self, *args, **more):
        super().__init__(*args, **more)
        self.passed = 0

    def addSuccess(self, test):
        super().addSuccess(test)
        self.passed += 1

    def failed(self):
        wrong = [test for test, told in self.failures + self.errors] + self.unexpectedSuccesses
        return len({getattr(test, "test_case", test).id() for test in wrong})


def run(folder, top):
    """How many tests of a folder passed, and how many failed."""
    print(f"== {folder}", flush=True)
    found = unittest.TestLoader().discover(str(folder), top_level_dir=str(top))
    result = unittest.TextTestRunner(stream=sys.stdout, resultclass=Counted).run(found)
    return result.passed, result.failed()


def main():
    sys.path.insert(0, str(ROOT))
    passed, failed = run(OWN, ROOT)
    if passed + failed == 0:
        print("no test of the project was found")
        failed = 1
    for folder in sorted({path.parent for path in SHARED.rglob("test_*.py")}):
        # A shared file may have the name of one that another folder brought in.
        for name in [name for name in sys.modules if name.startswith("test_")]:
            del sys.modules[name]
        more, wrong = run(folder, folder)
        passed, failed = passed + more, failed + wrong
    print(f"{passed} passed, {failed} failed", flush=True)
    return 1 if failed else 0


if __name__ == "__main__":
    sys.exit(main())
