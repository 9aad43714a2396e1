"""Promise 4: members."""

import unittest

from tests.helper import MEMBERS, PEOPLE, RULES, ask, ask_last, call, counted


def told(*names):
    numbers = [len(names)]
    for name in names:
        numbers.extend(counted(name))
    return numbers


class TestMembers(unittest.TestCase):
    def members(self, text, name):
        return ask_last(call(RULES, text), call(MEMBERS, name))

    def test_a_person(self):
        self.assertEqual(self.members(PEOPLE, "ann"), told("ann"))
        self.assertEqual(self.members("person abcdefghijkl", "abcdefghijkl"), told("abcdefghijkl"))

    def test_a_group(self):
        self.assertEqual(self.members(PEOPLE, "two"), told("ann", "bob"))

    def test_a_group_with_groups_in_it(self):
        self.assertEqual(self.members(PEOPLE, "all_of"), told("ann", "bob", "cyd"))
        deep = "person a, b, c; group g = a; group h = g, b; group i = h, c, g"
        self.assertEqual(self.members(deep, "i"), told("a", "b", "c"))

    def test_in_the_order_in_which_people_were_told(self):
        text = "person b, a; person c; group g = c, a; group h = g, b"
        self.assertEqual(self.members(text, "g"), told("a", "c"))
        self.assertEqual(self.members(text, "h"), told("b", "a", "c"))

    def test_each_person_once(self):
        text = "person a, b; group g = a, a; group h = g, a, b, g"
        self.assertEqual(self.members(text, "g"), told("a"))
        self.assertEqual(self.members(text, "h"), told("a", "b"))

    def test_people_told_later_are_not_in_it(self):
        self.assertEqual(self.members("person a; group g = a; person b", "g"), told("a"))

    def test_all_eight(self):
        text = "person a,b,c,d,e,f,g,h; group all_ = h,g,f,e,d,c,b,a"
        self.assertEqual(self.members(text, "all_"), told(*"abcdefgh"))

    def test_a_name_that_nobody_has(self):
        for name in ("dan", "", "an", "anne", "Ann", "ann ", "person", "a" * 40, [0], [255] * 40):
            with self.subTest(name=name):
                self.assertEqual(self.members(PEOPLE, name), [-6])

    def test_before_any_rules(self):
        self.assertEqual(ask(MEMBERS, "ann"), [-6])


if __name__ == "__main__":
    unittest.main()
