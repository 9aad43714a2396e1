"""Promise 10: verdict."""

import unittest

from tests.helper import (
    APPROVE, BEGIN, EDIT, FOUR, RULES, SHOW, VERDICT, VETO, WITHDRAW, ask, ask_all, ask_last, call,
)

APPROVED = [1]


def verdict(rules, *calls):
    return ask_last(call(RULES, rules), *calls, call(VERDICT))


def by_ann(rules, path, approving="", vetoing=""):
    """The verdict on a change of ann's that touches one path, which is approved and vetoed by those told."""
    calls = [call(BEGIN, "ann"), call(EDIT, path)]
    calls.extend([call(APPROVE, name) for name in approving.split()])
    calls.extend([call(VETO, name) for name in vetoing.split()])
    return verdict(FOUR + rules, *calls)


def kept(*things):
    return [0, len(things)] + [number for thing in things for number in thing]


class TestPaths(unittest.TestCase):
    def test_without_a_change(self):
        self.assertEqual(ask(VERDICT), [-12])
        self.assertEqual(verdict(FOUR + "default need bob"), [-12])
        self.assertEqual(verdict(FOUR + "default need bob", call(BEGIN, "two")), [-12])
        told = verdict(FOUR + "default need bob", call(BEGIN, "ann"), call(RULES, "person a"))
        self.assertEqual(told, [-12])

    def test_no_path_is_touched(self):
        self.assertEqual(verdict(FOUR + "default need bob", call(BEGIN, "ann")), APPROVED)
        self.assertEqual(verdict(FOUR + "on '**' veto bob", call(BEGIN, "ann"), call(VETO, "bob")), APPROVED)

    def test_a_path_without_needs(self):
        self.assertEqual(by_ann("sticky '**'", "x"), kept((0, 0, 3)))
        self.assertEqual(by_ann("on 'y' need bob", "x", "bob"), kept((0, 0, 3)))
        self.assertEqual(by_ann("on 'y' need bob; on '*/**' need bob", "x", "bob cyd dan"), kept((0, 0, 3)))

    def test_a_path_without_needs_among_others(self):
        told = verdict(
            FOUR + "on 'y' need bob", call(BEGIN, "ann"), call(EDIT, "y"), call(EDIT, "x"), call(APPROVE, "bob"),
        )
        self.assertEqual(told, kept((1, 0, 3)))

    def test_needs_of_several_statements(self):
        rules = "on 'x/*' need bob; on 'x/y' need cyd; on '**' need dan; on 'y' need author bob"
        self.assertEqual(by_ann(rules, "x/y"), kept((0, 4, 1), (0, 5, 1), (0, 6, 1)))
        self.assertEqual(by_ann(rules, "x/y", "cyd"), kept((0, 4, 1), (0, 6, 1)))
        self.assertEqual(by_ann(rules, "x/y", "bob dan"), kept((0, 5, 1)))
        self.assertEqual(by_ann(rules, "x/y", "bob dan cyd"), APPROVED)
        self.assertEqual(by_ann(rules, "x/z", "bob dan"), APPROVED)

    def test_the_default_where_no_other_need_matches(self):
        rules = "default need bob; on 'y' need cyd"
        self.assertEqual(by_ann(rules, "x"), kept((0, 4, 1)))
        self.assertEqual(by_ann(rules, "x", "cyd"), kept((0, 4, 1)))
        self.assertEqual(by_ann(rules, "x", "bob"), APPROVED)

    def test_the_default_where_another_need_matches(self):
        for rules in ("default need bob; on 'y' need cyd", "on 'y' need cyd; default need bob"):
            with self.subTest(rules=rules):
                self.assertEqual(by_ann(rules, "y", "cyd"), APPROVED)
        self.assertEqual(by_ann("default need bob; on 'y' need cyd", "y", "bob"), kept((0, 5, 1)))
        self.assertEqual(by_ann("on 'y' need cyd; default need bob", "y", "bob"), kept((0, 4, 1)))

    def test_the_default_beside_vetoes_and_sticky_statements_that_match(self):
        self.assertEqual(by_ann("on 'x' veto bob; sticky 'x'; default need cyd", "x"), kept((0, 6, 1)))

    def test_rules_that_name_people_alone(self):
        self.assertEqual(verdict("person ann", call(BEGIN, "ann"), call(EDIT, "x")), kept((0, 0, 3)))


class TestVersions(unittest.TestCase):
    def old(self, rules, path):
        return verdict(FOUR + rules, call(BEGIN, "ann"), call(EDIT, path), call(APPROVE, "bob"), call(EDIT, path))

    def test_an_approval_older_than_the_path(self):
        self.assertEqual(self.old("on '**' need bob", "x/y"), kept((0, 4, 1)))

    def test_with_a_sticky_statement_that_matches(self):
        for sticky in ("sticky 'x/y'", "sticky '**'", "sticky 'q'; sticky 'x/*'"):
            with self.subTest(sticky=sticky):
                self.assertEqual(self.old("on '**' need bob; " + sticky, "x/y"), APPROVED)

    def test_with_a_sticky_statement_that_doesnt_match(self):
        for sticky in ("sticky 'x'", "sticky '*'", "sticky 'x/y/**'"):
            with self.subTest(sticky=sticky):
                self.assertEqual(self.old("on '**' need bob; " + sticky, "x/y"), kept((0, 4, 1)))

    def test_an_approval_from_before_any_edit(self):
        calls = [call(BEGIN, "ann"), call(APPROVE, "bob"), call(EDIT, "x")]
        self.assertEqual(verdict(FOUR + "default need bob", *calls), kept((0, 4, 1)))
        self.assertEqual(verdict(FOUR + "default need bob; sticky 'x'", *calls), APPROVED)

    def test_an_approval_of_a_later_version_than_the_path(self):
        calls = [call(BEGIN, "ann"), call(EDIT, "x"), call(EDIT, "y"), call(EDIT, "y"), call(APPROVE, "bob")]
        self.assertEqual(verdict(FOUR + "default need bob", *calls), APPROVED)

    def test_an_approval_of_one_path_and_not_of_a_later_one(self):
        calls = [call(BEGIN, "ann"), call(EDIT, "x"), call(APPROVE, "bob"), call(EDIT, "y")]
        self.assertEqual(verdict(FOUR + "default need bob", *calls), kept((1, 4, 1)))
        self.assertEqual(verdict(FOUR + "default need bob", *calls, call(EDIT, "x")), kept((0, 4, 1), (1, 4, 1)))
        self.assertEqual(verdict(FOUR + "default need bob; sticky 'y'", *calls), APPROVED)
        told = verdict(FOUR + "default need bob; sticky 'y'", *calls, call(EDIT, "x"))
        self.assertEqual(told, kept((0, 4, 1)))

    def test_approved_again(self):
        calls = [call(BEGIN, "ann"), call(EDIT, "x"), call(APPROVE, "bob"), call(EDIT, "x"), call(APPROVE, "bob")]
        self.assertEqual(verdict(FOUR + "default need bob", *calls), APPROVED)

    def test_old_and_new_approvals_are_counted_one_by_one(self):
        calls = [call(BEGIN, "ann"), call(EDIT, "x"), call(APPROVE, "bob"), call(EDIT, "x"), call(APPROVE, "cyd")]
        self.assertEqual(verdict(FOUR + "default need 2 of more", *calls), kept((0, 4, 1)))
        self.assertEqual(verdict(FOUR + "default need 2 of more", *calls, call(APPROVE, "dan")), APPROVED)
        self.assertEqual(verdict(FOUR + "default need 2 of more; sticky '*'", *calls), APPROVED)

    def test_a_withdrawn_approval_counts_no_more(self):
        calls = [call(BEGIN, "ann"), call(EDIT, "x"), call(APPROVE, "bob"), call(WITHDRAW, "bob")]
        self.assertEqual(verdict(FOUR + "default need bob; sticky '**'", *calls), kept((0, 4, 1)))


class TestConditions(unittest.TestCase):
    def check(self, condition, met, unmet):
        """Each of met and unmet is a text of names: those who approve a path that ann edited."""
        for approving in met:
            with self.subTest(condition=condition, approving=approving):
                self.assertEqual(by_ann("on 'x' need " + condition, "x", approving), APPROVED)
        for approving in unmet:
            with self.subTest(condition=condition, approving=approving):
                self.assertEqual(by_ann("on 'x' need " + condition, "x", approving), kept((0, 4, 1)))

    def test_a_person(self):
        self.check("bob", ["bob", "cyd bob"], ["", "cyd", "cyd dan"])
        self.check("ann", [], ["", "bob cyd dan"])

    def test_a_group(self):
        self.check("two", ["bob", "cyd", "bob cyd"], ["", "dan"])
        self.check("more", ["bob", "cyd", "dan"], [""])

    def test_so_many_of_a_group(self):
        self.check("1 of two", ["bob", "cyd", "bob cyd"], ["", "dan"])
        self.check("2 of two", ["bob cyd", "cyd dan bob"], ["", "bob", "cyd", "bob dan"])
        self.check("2 of more", ["bob cyd", "cyd dan", "bob dan", "bob cyd dan"], ["", "bob", "cyd", "dan"])
        self.check("03 of more", ["dan cyd bob"], ["", "bob cyd", "cyd dan", "bob dan"])

    def test_so_many_of_a_group_that_has_the_author(self):
        rules = "person a, b, c; group g = a, b, c; on 'x' need %d of g"
        calls = [call(BEGIN, "b"), call(EDIT, "x"), call(APPROVE, "a"), call(APPROVE, "c")]
        self.assertEqual(verdict(rules % 2, *calls), APPROVED)
        self.assertEqual(verdict(rules % 3, *calls), kept((0, 3, 1)))

    def test_a_person_who_is_in_a_group_twice_counts_once(self):
        rules = "person a, b, c; group g = a, a; group h = g, a, b; on 'x' need 2 of h"
        calls = [call(BEGIN, "c"), call(EDIT, "x"), call(APPROVE, "a")]
        self.assertEqual(verdict(rules, *calls), kept((0, 4, 1)))
        self.assertEqual(verdict(rules, *calls, call(APPROVE, "b")), APPROVED)

    def test_the_author(self):
        self.check("author ann", ["", "bob"], [])
        self.check("author bob", [], ["", "bob", "bob cyd dan"])
        self.check("author two", [], ["", "bob cyd"])
        rules = FOUR + "on 'x' need author two"
        self.assertEqual(verdict(rules, call(BEGIN, "cyd"), call(EDIT, "x")), APPROVED)
        self.assertEqual(verdict(rules, call(BEGIN, "dan"), call(EDIT, "x")), kept((0, 4, 1)))

    def test_and(self):
        self.check("bob and cyd", ["bob cyd", "cyd bob dan"], ["", "bob", "cyd", "dan", "bob dan"])
        self.check("author ann and bob", ["bob"], ["", "cyd"])
        self.check("author cyd and bob", [], ["", "bob"])

    def test_or(self):
        self.check("bob or cyd", ["bob", "cyd", "bob cyd"], ["", "dan"])
        self.check("author ann or bob", ["", "bob"], [])
        self.check("author cyd or bob", ["bob"], ["", "cyd"])

    def test_and_within_or_and_or_within_and(self):
        self.check("bob or cyd and dan", ["bob", "cyd dan"], ["", "cyd", "dan"])
        self.check("(bob or cyd) and dan", ["bob dan", "cyd dan"], ["", "bob", "dan", "bob cyd"])
        self.check("dan and (bob or cyd)", ["bob dan", "cyd dan"], ["", "bob", "dan", "bob cyd"])
        self.check("bob and cyd or dan", ["dan", "bob cyd"], ["", "bob", "cyd"])
        self.check("bob and (cyd or dan and author ann)", ["bob cyd", "bob dan"], ["", "bob", "cyd dan"])

    def test_the_deepest(self):
        self.check("(" * 39 + "bob" + " or cyd)" * 39, ["bob", "cyd"], ["", "dan"])
        self.check("bob and (" * 39 + "dan" + ")" * 39, ["bob dan"], ["", "bob", "dan", "cyd dan"])


class TestVetoes(unittest.TestCase):
    TEXT = "on '**' need bob; on 'x' veto two; on 'x' veto dan"

    def test_by_somebody_in_the_group_told(self):
        self.assertEqual(by_ann(self.TEXT, "x", "bob", "cyd"), kept((0, 5, 2)))
        self.assertEqual(by_ann(self.TEXT, "x", "bob", "bob"), kept((0, 5, 2)))
        self.assertEqual(by_ann(self.TEXT, "x", "bob", "bob cyd"), kept((0, 5, 2)))

    def test_by_the_person_told(self):
        self.assertEqual(by_ann(self.TEXT, "x", "bob", "dan"), kept((0, 6, 2)))
        self.assertEqual(by_ann(self.TEXT, "x", "bob", "dan cyd"), kept((0, 5, 2), (0, 6, 2)))

    def test_by_somebody_else(self):
        self.assertEqual(by_ann("on '**' need bob; on 'x' veto two", "x", "bob", "dan"), APPROVED)
        self.assertEqual(by_ann("on '**' need bob; on 'x' veto dan", "x", "bob", "bob cyd"), APPROVED)
        self.assertEqual(by_ann("on '**' need bob; on 'x' veto ann", "x", "bob", "bob cyd dan"), APPROVED)

    def test_on_a_path_that_the_pattern_doesnt_match(self):
        self.assertEqual(by_ann(self.TEXT, "y", "bob", "bob cyd dan"), APPROVED)
        self.assertEqual(by_ann(self.TEXT, "x/y", "bob", "bob cyd dan"), APPROVED)

    def test_withdrawn(self):
        calls = [call(BEGIN, "ann"), call(EDIT, "x"), call(VETO, "dan"), call(WITHDRAW, "dan"), call(APPROVE, "bob")]
        self.assertEqual(verdict(FOUR + self.TEXT, *calls), APPROVED)

    def test_a_veto_stays_through_edits(self):
        calls = [call(BEGIN, "ann"), call(VETO, "dan"), call(EDIT, "x"), call(EDIT, "x"), call(APPROVE, "bob")]
        self.assertEqual(verdict(FOUR + self.TEXT, *calls), kept((0, 6, 2)))

    def test_an_approval_doesnt_take_the_vetos_place(self):
        self.assertEqual(by_ann("default need dan; on 'x' veto dan", "x", "dan", "dan"), kept((0, 5, 2)))

    def test_a_veto_on_a_path_without_needs(self):
        self.assertEqual(by_ann("on 'x' veto two", "x", "", "cyd"), kept((0, 0, 3), (0, 4, 2)))


class TestOrder(unittest.TestCase):
    def test_needs_before_vetoes_each_in_the_statements_order(self):
        rules = "on 'x' veto bob; on 'x' need cyd; on '*' veto two; on '*' need dan"
        told = by_ann(rules, "x", "", "bob")
        self.assertEqual(told, kept((0, 5, 1), (0, 7, 1), (0, 4, 2), (0, 6, 2)))

    def test_the_default_before_vetoes_that_stand_ahead_of_it(self):
        rules = "on 'x' veto bob; default need cyd; on 'x' veto two"
        self.assertEqual(by_ann(rules, "x", "", "bob"), kept((0, 5, 1), (0, 4, 2), (0, 6, 2)))

    def test_path_by_path_in_the_order_of_the_first_touch(self):
        rules = FOUR + "on 'x' veto bob; on 'x' need cyd; on 'w/**' need dan and two; on '*' veto two; on '*' need dan"
        calls = [call(BEGIN, "ann")]
        calls.extend([call(EDIT, path) for path in ("z/z", "x", "w/v", "a", "z/z", "x")])
        told = verdict(rules, *calls, call(VETO, "bob"))
        self.assertEqual(told, kept(
            (0, 0, 3),
            (1, 5, 1), (1, 8, 1), (1, 4, 2), (1, 7, 2),
            (2, 6, 1),
            (3, 8, 1), (3, 7, 2),
        ))

    def test_the_numbers_count_all_statements(self):
        rules = (
            "person bob, ann; sticky 'q'; on 'x' need bob; person cyd; on 'x' need ann; group g = ann; on 'x' veto g; "
            "default need bob"
        )
        told = verdict(rules, call(BEGIN, "bob"), call(EDIT, "x"), call(VETO, "ann"))
        self.assertEqual(told, kept((0, 3, 1), (0, 5, 1), (0, 7, 2)))

    def test_the_longest(self):
        rules = "person a, b" + "; on '**' need a" * 11 + "; on '**' veto b" * 12
        calls = [call(BEGIN, "a"), call(VETO, "b")] + [call(EDIT, path) for path in "stuvwxyz"]
        expected = []
        for path in range(8):
            expected.extend([(path, number, 1) for number in range(2, 13)])
            expected.extend([(path, number, 2) for number in range(13, 25)])
        self.assertEqual(verdict(rules, *calls), kept(*expected))


class TestRulesInPlaceOfOthers(unittest.TestCase):
    def test_new_rules_hold_for_the_next_change(self):
        first = FOUR + "default need bob"
        told = ask_all(
            call(RULES, first), call(BEGIN, "ann"), call(EDIT, "x"), call(APPROVE, "bob"), call(VERDICT),
            call(RULES, "person ann, bob; default need ann"), call(VERDICT), call(BEGIN, "ann"), call(EDIT, "x"),
            call(APPROVE, "bob"), call(VERDICT),
        )
        self.assertEqual(told[4:], [APPROVED, [2], [-12], [0], [1], [1], kept((0, 2, 1))])

    def test_refused_rules_leave_the_verdict_as_it_was(self):
        first = FOUR + "default need bob"
        calls = [call(RULES, first), call(BEGIN, "ann"), call(EDIT, "x")]
        refused = call(RULES, first + "; default need cyd")
        told = ask_all(*calls, refused, call(VERDICT), call(APPROVE, "bob"), call(VERDICT))
        self.assertEqual(told[3:], [[-10], kept((0, 4, 1)), [1], APPROVED])
        self.assertEqual(ask_last(*calls, call(RULES, ""), call(SHOW)), ask_last(*calls, call(SHOW)))


if __name__ == "__main__":
    unittest.main()
