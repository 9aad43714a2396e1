"""Promise 12: told."""

import unittest

from tests.helper import BEGIN, EDIT, NO_PATHS, PEOPLE, RULES, STATUS, TOLD, ask, ask_all, ask_last, call

ALL_KINDS = (
    "sticky 'x/**'; person a, b; default need a; on 'x/y' veto b; group g = a, b; on 'x/*' need a; "
    "sticky '*'; on '**' need b or a; on '*' veto g; on 'q' need a; sticky 'x/y'"
)


def told(rules, path):
    return ask_last(call(RULES, rules), call(TOLD, path))


def pairs(*given):
    return [len(given)] + [number for pair in given for number in pair]


class TestTold(unittest.TestCase):
    def test_each_kind_in_the_statements_order(self):
        self.assertEqual(told(ALL_KINDS, "x/y"), pairs((1, 3), (4, 2), (6, 1), (8, 1), (11, 3)))
        self.assertEqual(told(ALL_KINDS, "x"), pairs((7, 3), (8, 1), (9, 2)))
        self.assertEqual(told(ALL_KINDS, "q"), pairs((7, 3), (8, 1), (9, 2), (10, 1)))
        self.assertEqual(told(ALL_KINDS, "a/b/c/d"), pairs((8, 1)))

    def test_written_out(self):
        self.assertEqual(told("person a; on 'x' need a; on 'x' veto a; sticky 'x'", "x"), [3, 2, 1, 3, 2, 4, 3])

    def test_the_default_where_no_need_matches(self):
        self.assertEqual(told("person a; default need a", "x"), pairs((2, 4)))
        rules = "person a; sticky 'x'; default need a; on 'x' veto a; on 'y' need a"
        self.assertEqual(told(rules, "x"), pairs((2, 3), (3, 4), (4, 2)))
        self.assertEqual(told(rules, "z/z"), pairs((3, 4)))

    def test_the_default_where_a_need_matches(self):
        self.assertEqual(told("person a; default need a; on 'x' need a", "x"), pairs((3, 1)))
        self.assertEqual(told("person a; on 'x' need a; default need a", "x"), pairs((2, 1)))
        self.assertEqual(told("person a; on 'x' need a; sticky 'x'; default need a", "x"), pairs((2, 1), (3, 3)))

    def test_a_path_that_nothing_speaks_of(self):
        self.assertEqual(told("person a; on 'x' need a; on 'x' veto a; sticky 'x'", "y"), [0])
        self.assertEqual(told(PEOPLE, "x"), [0])
        self.assertEqual(told("person a; on '*' need a", "x/y"), [0])
        self.assertEqual(told("person a; on 'x/**' need a", "x"), [0])

    def test_before_any_rules(self):
        self.assertEqual(ask(TOLD, "x"), [0])

    def test_what_is_no_path(self):
        for path in NO_PATHS:
            with self.subTest(path=path):
                self.assertEqual(told(ALL_KINDS, path), [-11])
                self.assertEqual(ask(TOLD, path), [-11])

    def test_the_change_makes_no_odds(self):
        calls = [call(RULES, ALL_KINDS), call(BEGIN, "a"), call(EDIT, "x/y"), call(STATUS)]
        answers = ask_all(*calls, call(TOLD, "x/y"), call(TOLD, "x"), call(STATUS))
        self.assertEqual(answers[4:6], [told(ALL_KINDS, "x/y"), told(ALL_KINDS, "x")])
        self.assertEqual(answers[6], answers[3])

    def test_refused_rules_leave_what_is_told(self):
        answers = ask_all(call(RULES, ALL_KINDS), call(RULES, "sticky 'x'; sticky"), call(TOLD, "x"))
        self.assertEqual(answers[1:], [[-4], told(ALL_KINDS, "x")])

    def test_twenty_four(self):
        rules = "sticky '**'" + "; sticky '*'" * 23
        self.assertEqual(told(rules, "x"), pairs(*[(number, 3) for number in range(1, 25)]))
        self.assertEqual(told(rules, "x/y"), pairs((1, 3)))


if __name__ == "__main__":
    unittest.main()
