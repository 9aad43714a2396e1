"""Promise 8: approve, veto and withdraw."""

import unittest

from tests.helper import (
    APPROVE, BEGIN, EDIT, PEOPLE, RULES, STATUS, VETO, WITHDRAW, ask, ask_all, ask_last, call, status,
)

BEGUN = [call(RULES, PEOPLE), call(BEGIN, "ann")]
THREE = (APPROVE, VETO, WITHDRAW)
EIGHT_PEOPLE = "person a, b, c, d, e, f, g, h"


class TestApprove(unittest.TestCase):
    def test_the_present_version(self):
        told = ask_all(
            *BEGUN, call(APPROVE, "bob"), call(EDIT, "x"), call(EDIT, "x"), call(APPROVE, "cyd"), call(STATUS),
        )
        self.assertEqual(told[2], [0])
        self.assertEqual(told[5], [2])
        self.assertEqual(told[6], status("ann", 2, [("x", 2)], [("bob", 0), ("cyd", 2)]))

    def test_a_second_approval_is_the_last_with_the_present_version(self):
        told = ask_all(
            *BEGUN, call(APPROVE, "bob"), call(APPROVE, "cyd"), call(EDIT, "x"), call(APPROVE, "bob"), call(STATUS),
        )
        self.assertEqual(told[-2:], [[1], status("ann", 1, [("x", 1)], [("cyd", 0), ("bob", 1)])])

    def test_a_second_approval_of_the_same_version_is_the_last_too(self):
        told = ask_last(*BEGUN, call(APPROVE, "bob"), call(APPROVE, "cyd"), call(APPROVE, "bob"), call(STATUS))
        self.assertEqual(told, status("ann", 0, [], [("cyd", 0), ("bob", 0)]))

    def test_a_veto_stays(self):
        told = ask_last(*BEGUN, call(VETO, "bob"), call(APPROVE, "bob"), call(STATUS))
        self.assertEqual(told, status("ann", 0, [], [("bob", 0)], ["bob"]))


class TestVeto(unittest.TestCase):
    def test_how_many_there_are(self):
        told = ask_all(*BEGUN, call(VETO, "cyd"), call(VETO, "bob"), call(STATUS))
        self.assertEqual(told[2:], [[1], [2], status("ann", 0, [], [], ["cyd", "bob"])])

    def test_a_second_veto_is_the_last(self):
        told = ask_all(*BEGUN, call(VETO, "bob"), call(VETO, "cyd"), call(VETO, "bob"), call(STATUS))
        self.assertEqual(told[2:], [[1], [2], [2], status("ann", 0, [], [], ["cyd", "bob"])])

    def test_an_approval_stays(self):
        told = ask_all(*BEGUN, call(APPROVE, "bob"), call(EDIT, "x"), call(VETO, "bob"), call(STATUS))
        self.assertEqual(told[-2:], [[1], status("ann", 1, [("x", 1)], [("bob", 0)], ["bob"])])

    def test_seven(self):
        calls = [call(RULES, EIGHT_PEOPLE), call(BEGIN, "d")] + [call(VETO, name) for name in "abcefgh"]
        self.assertEqual(ask_all(*calls)[2:], [[number] for number in range(1, 8)])
        self.assertEqual(ask_last(*calls, call(VETO, "d")), [-13])
        self.assertEqual(ask_all(*calls, call(VETO, "a"), call(STATUS))[-2:], [[7], status("d", 0, [], [], "bcefgha")])


class TestWithdraw(unittest.TestCase):
    def test_an_approval(self):
        told = ask_all(
            *BEGUN, call(APPROVE, "bob"), call(APPROVE, "cyd"), call(VETO, "cyd"), call(WITHDRAW, "bob"), call(STATUS),
        )
        self.assertEqual(told[-2:], [[0], status("ann", 0, [], [("cyd", 0)], ["cyd"])])

    def test_a_veto(self):
        told = ask_all(
            *BEGUN, call(VETO, "bob"), call(VETO, "cyd"), call(APPROVE, "cyd"), call(WITHDRAW, "bob"), call(STATUS),
        )
        self.assertEqual(told[-2:], [[0], status("ann", 0, [], [("cyd", 0)], ["cyd"])])

    def test_both(self):
        told = ask_all(*BEGUN, call(VETO, "bob"), call(APPROVE, "bob"), call(WITHDRAW, "bob"), call(STATUS))
        self.assertEqual(told[-2:], [[0], status("ann", 0)])

    def test_neither(self):
        told = ask_all(*BEGUN, call(VETO, "cyd"), call(APPROVE, "cyd"), call(WITHDRAW, "bob"), call(STATUS))
        self.assertEqual(told[-2:], [[0], status("ann", 0, [], [("cyd", 0)], ["cyd"])])
        self.assertEqual(ask_last(*BEGUN, call(WITHDRAW, "bob"), call(WITHDRAW, "bob")), [0])

    def test_the_version_isnt_told_but_0(self):
        self.assertEqual(ask_last(*BEGUN, call(EDIT, "x"), call(APPROVE, "bob"), call(WITHDRAW, "bob")), [0])

    def test_and_again(self):
        told = ask_all(
            *BEGUN, call(APPROVE, "bob"), call(VETO, "bob"), call(APPROVE, "cyd"), call(WITHDRAW, "bob"),
            call(EDIT, "x"), call(APPROVE, "bob"), call(VETO, "bob"), call(STATUS),
        )
        self.assertEqual(told[-3:-1], [[1], [1]])
        self.assertEqual(told[-1], status("ann", 1, [("x", 1)], [("cyd", 0), ("bob", 1)], ["bob"]))


class TestRefused(unittest.TestCase):
    def check(self, name, refusal):
        before = [*BEGUN, call(EDIT, "x"), call(APPROVE, "cyd"), call(VETO, "cyd"), call(VETO, "bob")]
        for number in THREE:
            with self.subTest(call=number, name=name):
                told = ask_all(*before, call(number, name), call(STATUS))
                self.assertEqual(told[-2:], [[refusal], status("ann", 1, [("x", 1)], [("cyd", 1)], ["cyd", "bob"])])

    def test_a_group(self):
        self.check("two", -6)
        self.check("all_of", -6)

    def test_a_name_that_nobody_has(self):
        for name in ("dan", "", "bo", "bobb", "Bob", "author", "b" * 40, [0], [255] * 40, [98, 111, 226]):
            self.check(name, -6)

    def test_the_author(self):
        self.check("ann", -13)

    def test_without_a_change(self):
        for number in THREE:
            with self.subTest(call=number):
                told = ask_all(call(RULES, PEOPLE), call(number, "bob"), call(STATUS))
                self.assertEqual(told[1:], [[-12], [0]])
                self.assertEqual(ask_last(*BEGUN, call(RULES, PEOPLE), call(number, "ann")), [-12])

    def test_no_person_is_told_before_no_change(self):
        for number in THREE:
            with self.subTest(call=number):
                self.assertEqual(ask(number, "bob"), [-6])
                self.assertEqual(ask_last(call(RULES, PEOPLE), call(number, "two")), [-6])
                self.assertEqual(ask_last(*BEGUN, call(RULES, "person bob"), call(number, "ann")), [-6])


if __name__ == "__main__":
    unittest.main()
