"""Promise 1: the rules that hold, and rules that are refused."""

import unittest

from tests.helper import BEGIN, MEMBERS, PEOPLE, RULES, SHOW, ask, ask_all, call, counted, padded

REFUSED = (
    (padded("person a", 1001), -1),
    ("person ?", -2),
    ("default need " + "(" * 41, -3),
    ("person", -4),
    ("person a; default need a" + " or a" * 40, -5),
    ("person a; on 'x' veto b", -6),
    ("person a, a", -7),
    ("person a; group g = a; default need 2 of g", -8),
    ("person a,b,c,d,e,f,g,h; person i", -9),
    ("person a; default need a; default need a", -10),
)


class TestRules(unittest.TestCase):
    def test_answers_how_many_statements(self):
        self.assertEqual(ask(RULES, "sticky 'x'"), [1])
        self.assertEqual(ask(RULES, PEOPLE), [3])
        self.assertEqual(ask(RULES, ";".join(["sticky 'x'"] * 24)), [24])
        self.assertEqual(ask(RULES, ";".join(["sticky 'x'"] * 25)), [-4])

    def test_each_fault_refuses(self):
        for text, number in REFUSED:
            with self.subTest(number=number):
                self.assertEqual(ask(RULES, text), [number])

    def test_refused_rules_change_nothing(self):
        for text, number in REFUSED:
            with self.subTest(number=number):
                told = ask_all(
                    call(RULES, "person x, y; group z = y, x"),
                    call(RULES, text),
                    call(SHOW),
                    call(MEMBERS, "z"),
                    call(MEMBERS, "a"),
                    call(BEGIN, "x"),
                )
                shown = counted("person x, y; group z = y, x")
                self.assertEqual(told, [[2], [number], shown, [2, 1, ord("x"), 1, ord("y")], [-6], [0]])

    def test_refused_first_rules_leave_none(self):
        told = ask_all(call(RULES, "person a, a"), call(SHOW), call(MEMBERS, "a"), call(BEGIN, "a"))
        self.assertEqual(told, [[-7], [0], [-6], [-6]])

    def test_rules_replace_others_with_their_people_and_groups(self):
        told = ask_all(
            call(RULES, "person a, b; group g = a"),
            call(RULES, "person b, g"),
            call(SHOW),
            call(MEMBERS, "a"),
            call(MEMBERS, "g"),
            call(BEGIN, "a"),
            call(BEGIN, "g"),
        )
        self.assertEqual(told, [[2], [1], counted("person b, g"), [-6], [1, 1, ord("g")], [-6], [0]])

    def test_names_of_replaced_rules_are_free_and_unknown(self):
        told = ask_all(
            call(RULES, "person a,b,c,d,e,f,g,h; default need a"),
            call(RULES, "person a,i; default need a"),
            call(RULES, "default need i"),
        )
        self.assertEqual(told, [[2], [2], [-6]])


if __name__ == "__main__":
    unittest.main()
