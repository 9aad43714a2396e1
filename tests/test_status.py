"""Promise 9: status."""

import unittest

from tests.helper import (
    APPROVE, BEGIN, EDIT, MISSING, PEOPLE, RULES, STATUS, VERDICT, VETO, WITHDRAW, ask, ask_all, ask_last, call, codes,
)


class TestStatus(unittest.TestCase):
    def test_without_a_change(self):
        self.assertEqual(ask(STATUS), [0])
        self.assertEqual(ask_last(call(RULES, PEOPLE), call(STATUS)), [0])
        self.assertEqual(ask_last(call(RULES, PEOPLE), call(BEGIN, "two"), call(STATUS)), [0])

    def test_a_change_that_touches_nothing(self):
        told = ask_last(call(RULES, PEOPLE), call(BEGIN, "bob"), call(STATUS))
        self.assertEqual(told, [1, 3] + codes("bob") + [0, 0, 0, 0])

    def test_paths_approvals_and_vetoes_in_their_order(self):
        told = ask_last(
            call(RULES, "person a, bb, c; sticky '*'"), call(BEGIN, "bb"), call(APPROVE, "c"), call(EDIT, "z/y"),
            call(EDIT, "x"), call(EDIT, "z/y"), call(APPROVE, "a"), call(VETO, "c"), call(VETO, "a"), call(STATUS),
        )
        self.assertEqual(told, [
            1, 2, 98, 98, 3,
            2, 3, 122, 47, 121, 3, 1, 120, 2,
            2, 1, 99, 0, 1, 97, 3,
            2, 1, 99, 1, 97,
        ])

    def test_each_list_by_itself(self):
        begun = [call(RULES, "person a, b"), call(BEGIN, "a")]
        self.assertEqual(ask_last(*begun, call(EDIT, "x"), call(STATUS)), [1, 1, 97, 1, 1, 1, 120, 1, 0, 0])
        self.assertEqual(ask_last(*begun, call(APPROVE, "b"), call(STATUS)), [1, 1, 97, 0, 0, 1, 1, 98, 0, 0])
        self.assertEqual(ask_last(*begun, call(VETO, "b"), call(STATUS)), [1, 1, 97, 0, 0, 0, 1, 1, 98])
        told = ask_last(*begun, call(VETO, "b"), call(APPROVE, "b"), call(WITHDRAW, "b"), call(STATUS))
        self.assertEqual(told, [1, 1, 97, 0, 0, 0, 0])

    def test_asking_changes_nothing(self):
        busy = [call(RULES, PEOPLE), call(BEGIN, "ann"), call(EDIT, "x"), call(APPROVE, "bob"), call(VETO, "cyd")]
        told = ask_all(*busy, call(STATUS), call(VERDICT), call(MISSING), call(STATUS), call(STATUS))
        self.assertEqual(told[5], told[8])
        self.assertEqual(told[5], told[9])


if __name__ == "__main__":
    unittest.main()
