"""Promise 6: begin."""

import unittest

from tests.helper import (
    APPROVE, BEGIN, EDIT, MEMBERS, PEOPLE, RULES, SHOW, STATUS, VERDICT, VETO, ask, ask_all, ask_last, call, counted,
    status,
)

BUSY = [
    call(RULES, PEOPLE), call(BEGIN, "ann"), call(EDIT, "x"), call(APPROVE, "bob"), call(EDIT, "y/z"),
    call(VETO, "cyd"), call(VETO, "bob"),
]
BUSY_STATUS = status("ann", 2, [("x", 1), ("y/z", 2)], [("bob", 1)], ["cyd", "bob"])


class TestBegin(unittest.TestCase):
    def test_a_person(self):
        self.assertEqual(ask_last(call(RULES, PEOPLE), call(BEGIN, "ann")), [0])
        self.assertEqual(ask_last(call(RULES, PEOPLE), call(BEGIN, "cyd")), [0])

    def test_again_and_again(self):
        told = ask_all(call(RULES, PEOPLE), call(BEGIN, "ann"), call(BEGIN, "bob"), call(BEGIN, "bob"))
        self.assertEqual(told, [[3], [0], [0], [0]])

    def test_a_group(self):
        self.assertEqual(ask_last(call(RULES, PEOPLE), call(BEGIN, "two")), [-6])

    def test_a_name_that_nobody_has(self):
        for name in ("dan", "", "an", "anne", "Ann", "person", "a" * 40, [0], [255] * 40):
            with self.subTest(name=name):
                self.assertEqual(ask_last(call(RULES, PEOPLE), call(BEGIN, name)), [-6])

    def test_before_any_rules(self):
        self.assertEqual(ask(BEGIN, "ann"), [-6])


class TestTheChange(unittest.TestCase):
    def test_is_new(self):
        self.assertEqual(ask_last(call(RULES, PEOPLE), call(BEGIN, "ann"), call(STATUS)), status("ann", 0))

    def test_takes_the_place_of_the_old_one(self):
        self.assertEqual(ask_last(*BUSY, call(STATUS)), BUSY_STATUS)
        for author in ("ann", "bob"):
            self.assertEqual(ask_last(*BUSY, call(BEGIN, author), call(STATUS)), status(author, 0))

    def test_stays_where_begin_is_refused(self):
        for name in ("two", "dan", ""):
            with self.subTest(name=name):
                self.assertEqual(ask_all(*BUSY, call(BEGIN, name), call(STATUS))[-2:], [[-6], BUSY_STATUS])

    def test_is_gone_with_new_rules(self):
        for text in (PEOPLE, "person ann", "sticky '*'"):
            with self.subTest(text=text):
                told = ask_all(*BUSY, call(RULES, text), call(STATUS), call(VERDICT), call(EDIT, "x"))
                self.assertEqual(told[-3:], [[0], [-12], [-12]])

    def test_stays_where_rules_are_refused(self):
        refused = {
            -1: " " * 1001, -2: "?", -3: "default need " + "(" * 41, -4: "person", -6: "group g = a", -7: "person a, a",
            -8: "person a; group g = a; default need 2 of g", -9: "person a, b, c, d, e, f, g, h; person i",
            -5: "default need a" + " or a" * 40, -10: "person a; default need a; default need a",
        }
        for number, text in refused.items():
            with self.subTest(number=number):
                told = ask_all(*BUSY, call(RULES, text), call(STATUS), call(SHOW), call(MEMBERS, "cyd"))
                self.assertEqual(told[-4:], [[number], BUSY_STATUS, counted(PEOPLE), [1] + counted("cyd")])


if __name__ == "__main__":
    unittest.main()
