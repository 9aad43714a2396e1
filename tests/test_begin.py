"""Promise 6: begin."""

import unittest

from reviewrules.changes import Desk, answer_call
from tests.helper import BEGIN, PEOPLE, RULES, ask, ask_all, ask_last, call, codes


class TestBegin(unittest.TestCase):
    def test_a_person(self):
        self.assertEqual(ask_last(call(RULES, PEOPLE), call(BEGIN, "ann")), [0])
        self.assertEqual(ask_last(call(RULES, PEOPLE), call(BEGIN, "cyd")), [0])

    def test_again_and_again(self):
        told = ask_all(call(RULES, PEOPLE), call(BEGIN, "ann"), call(BEGIN, "bob"), call(BEGIN, "bob"))
        self.assertEqual(told, [[3], [0], [0], [0]])

    def test_a_group(self):
        self.assertEqual(ask_last(call(RULES, PEOPLE), call(BEGIN, "two")), [-6])

    def test_a_name_that_nobody_has(self):
        for name in ("dan", "", "an", "anne", "Ann", "person", "a" * 40, [0], [255] * 40):
            with self.subTest(name=name):
                self.assertEqual(ask_last(call(RULES, PEOPLE), call(BEGIN, name)), [-6])

    def test_before_any_rules(self):
        self.assertEqual(ask(BEGIN, "ann"), [-6])


class TestTheChange(unittest.TestCase):
    def setUp(self):
        self.desk = Desk()
        self.assertIsNone(self.desk.change)
        self.ask(RULES, PEOPLE)

    def ask(self, number, text):
        return answer_call(self.desk, number, [codes(text)])

    def test_is_new(self):
        self.assertEqual(self.ask(BEGIN, "ann"), [0])
        change = self.desk.change
        self.assertEqual((change.author, change.version), ("ann", 0))
        self.assertEqual((len(change.paths), len(change.approvals), len(change.vetoes)), (0, 0, 0))

    def test_takes_the_place_of_the_old_one(self):
        self.ask(BEGIN, "ann")
        old = self.desk.change
        self.ask(BEGIN, "bob")
        self.assertEqual(self.desk.change.author, "bob")
        self.ask(BEGIN, "ann")
        self.assertIsNot(self.desk.change, old)

    def test_stays_where_begin_is_refused(self):
        self.ask(BEGIN, "ann")
        old = self.desk.change
        for name in ("two", "dan", ""):
            self.assertEqual(self.ask(BEGIN, name), [-6])
            self.assertIs(self.desk.change, old)

    def test_is_gone_with_new_rules(self):
        self.ask(BEGIN, "ann")
        self.assertEqual(self.ask(RULES, PEOPLE), [3])
        self.assertIsNone(self.desk.change)

    def test_stays_where_rules_are_refused(self):
        self.ask(BEGIN, "ann")
        old = self.desk.change
        self.assertEqual(self.ask(RULES, "person a, a"), [-7])
        self.assertIs(self.desk.change, old)


if __name__ == "__main__":
    unittest.main()
