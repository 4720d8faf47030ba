"""Runs the tests of each folder that is told, each folder in a process of its own, and closes with how many passed."""
import json
import os
import subprocess
import sys
import unittest


def run_one(folder):
    """Run the tests of one folder; the last line tells how many were run, failed and were skipped."""
    sys.path.insert(0, os.getcwd())
    suite = unittest.TestLoader().discover(folder, pattern="test_*.py", top_level_dir=folder)
    result = unittest.TextTestRunner(stream=sys.stdout, verbosity=1).run(suite)
    # One test can fail in several parts: each counts, so that none is lost.
    bad = len(result.failures) + len(result.errors) + len(result.unexpectedSuccesses)
    skipped = len(result.skipped)
    print(json.dumps([result.testsRun, bad, skipped]))
    return 0 if result.wasSuccessful() and result.testsRun > skipped else 1


def run_all(folders):
    """Run all folders; a folder whose process does not end well counts as a failure."""
    passed = failed = skipped = 0
    for folder in folders:
        print(f"-- {folder}", flush=True)
        told = subprocess.run([sys.executable, __file__, "--one", folder], stdout=subprocess.PIPE, text=True)
        shown, _, counts = told.stdout.rstrip().rpartition("\n")
        try:
            run, bad, left_out = json.loads(counts)
        except ValueError:
            shown, run, bad, left_out = told.stdout, 0, 1, 0
        print(shown, flush=True)
        if told.returncode != 0 and bad == 0:
            bad = 1
        passed += max(0, run - bad - left_out)
        failed += bad
        skipped += left_out
    print(f"{passed} passed, {failed} failed, {skipped} skipped")
    return 0 if failed == 0 and passed > 0 else 1


if __name__ == "__main__":
    if sys.argv[1] == "--one":
        sys.exit(run_one(sys.argv[2]))
    sys.exit(run_all(sys.argv[1:]))
