"""Promise 7: edit."""

import unittest

from tests.helper import (
    APPROVE, BEGIN, EDIT, NO_PATHS, PEOPLE, RULES, STATUS, VETO, ask, ask_all, ask_last, call, status,
)

BEGUN = [call(RULES, PEOPLE), call(BEGIN, "ann")]
EIGHT = [f"p{number}" for number in range(8)]


class TestEdit(unittest.TestCase):
    def test_the_version_goes_up_by_one(self):
        told = ask_all(*BEGUN, call(EDIT, "x"), call(EDIT, "y"), call(EDIT, "x"), call(EDIT, "x"))
        self.assertEqual(told[2:], [[1], [2], [3], [4]])

    def test_a_new_path_comes_behind_the_others(self):
        told = ask_last(*BEGUN, call(EDIT, "z"), call(EDIT, "a/b"), call(EDIT, "m"), call(STATUS))
        self.assertEqual(told, status("ann", 3, [("z", 1), ("a/b", 2), ("m", 3)]))

    def test_a_path_that_was_touched_stays_in_its_place(self):
        told = ask_last(*BEGUN, call(EDIT, "z"), call(EDIT, "y"), call(EDIT, "x"), call(EDIT, "z"), call(STATUS))
        self.assertEqual(told, status("ann", 4, [("z", 4), ("y", 2), ("x", 3)]))
        told = ask_last(*BEGUN, call(EDIT, "z"), call(EDIT, "y"), call(EDIT, "y"), call(STATUS))
        self.assertEqual(told, status("ann", 3, [("z", 1), ("y", 3)]))

    def test_paths_up_to_their_bounds(self):
        paths = ["a", "9", "_", ".", "-", "..", "a" * 12, "a/b/c/d", "/".join(["a" * 12] * 3) + "/b"]
        for path in paths:
            with self.subTest(path=path):
                told = ask_all(*BEGUN, call(EDIT, path), call(STATUS))
                self.assertEqual(told[2:], [[1], status("ann", 1, [(path, 1)])])

    def test_approvals_and_vetoes_stay(self):
        told = ask_last(*BEGUN, call(APPROVE, "bob"), call(VETO, "cyd"), call(EDIT, "x"), call(STATUS))
        self.assertEqual(told, status("ann", 1, [("x", 1)], [("bob", 0)], ["cyd"]))

    def test_a_new_change_begins_anew(self):
        told = ask_all(*BEGUN, call(EDIT, "x"), call(EDIT, "y"), call(BEGIN, "bob"), call(EDIT, "y"), call(STATUS))
        self.assertEqual(told[-2:], [[1], status("bob", 1, [("y", 1)])])


class TestRefused(unittest.TestCase):
    def test_what_is_no_path(self):
        before = status("ann", 1, [("x", 1)])
        for path in NO_PATHS:
            with self.subTest(path=path):
                told = ask_all(*BEGUN, call(EDIT, "x"), call(EDIT, path), call(STATUS), call(EDIT, "y"))
                self.assertEqual(told[-3:], [[-11], before, [2]])

    def test_without_a_change(self):
        self.assertEqual(ask(EDIT, "x"), [-12])
        self.assertEqual(ask_all(call(RULES, PEOPLE), call(EDIT, "x"), call(STATUS))[1:], [[-12], [0]])
        self.assertEqual(ask_last(*BEGUN, call(RULES, PEOPLE), call(EDIT, "x")), [-12])

    def test_no_path_is_told_before_no_change(self):
        self.assertEqual(ask(EDIT, "*"), [-11])
        self.assertEqual(ask_last(call(RULES, PEOPLE), call(EDIT, "")), [-11])


class TestEightPaths(unittest.TestCase):
    def setUp(self):
        self.calls = BEGUN + [call(EDIT, path) for path in EIGHT]
        self.paths = [(path, number + 1) for number, path in enumerate(EIGHT)]

    def test_an_eighth(self):
        told = ask_all(*self.calls, call(STATUS))
        self.assertEqual(told[2:10], [[number] for number in range(1, 9)])
        self.assertEqual(told[10], status("ann", 8, self.paths))

    def test_a_ninth_is_refused_and_nothing_is_changed(self):
        told = ask_all(*self.calls, call(EDIT, "ninth"), call(STATUS), call(EDIT, "ninth"))
        self.assertEqual(told[-3:], [[-9], status("ann", 8, self.paths), [-9]])

    def test_one_of_the_eight_again(self):
        told = ask_all(*self.calls, call(EDIT, "p0"), call(EDIT, "q"), call(EDIT, "p7"), call(STATUS))
        paths = [("p0", 9)] + self.paths[1:7] + [("p7", 10)]
        self.assertEqual(told[-4:], [[9], [-9], [10], status("ann", 10, paths)])

    def test_no_path_is_told_before_a_ninth(self):
        self.assertEqual(ask_last(*self.calls, call(EDIT, "Ninth")), [-11])

    def test_a_new_change_has_room_again(self):
        told = ask_all(*self.calls, call(BEGIN, "bob"), call(EDIT, "ninth"), call(STATUS))
        self.assertEqual(told[-2:], [[1], status("bob", 1, [("ninth", 1)])])


if __name__ == "__main__":
    unittest.main()
