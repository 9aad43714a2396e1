"""Promise 11: missing."""

import unittest

from tests.helper import (
    APPROVE, BEGIN, EDIT, FOUR, MISSING, RULES, VERDICT, VETO, WITHDRAW, ask, ask_all, ask_last, call, counted_all,
)

NOBODY_WOULD_DO = [0]


def missing(rules, *calls):
    return ask_last(call(RULES, rules), *calls, call(MISSING))


def by_ann(rules, *calls):
    """Who's missing of a change of ann's that touches x and has gone through the calls."""
    return missing(FOUR + rules, call(BEGIN, "ann"), call(EDIT, "x"), *calls)


def people(*names):
    return [1] + counted_all(names)


class TestHowMany(unittest.TestCase):
    def test_written_out(self):
        told = missing("person a, bb, c; default need bb and c", call(BEGIN, "a"), call(EDIT, "x"))
        self.assertEqual(told, [1, 2, 2, 98, 98, 1, 99])

    def test_without_a_change(self):
        self.assertEqual(ask(MISSING), [-12])
        self.assertEqual(missing(FOUR + "default need bob"), [-12])
        told = missing(FOUR + "sticky '*'", call(BEGIN, "ann"), call(RULES, FOUR + "sticky '*'"))
        self.assertEqual(told, [-12])

    def test_all_needs_are_met(self):
        self.assertEqual(by_ann("default need bob", call(APPROVE, "bob")), people())
        self.assertEqual(by_ann("default need author ann"), people())
        self.assertEqual(by_ann("default need author bob or cyd", call(APPROVE, "cyd")), people())

    def test_no_path_is_touched(self):
        self.assertEqual(missing(FOUR + "default need bob", call(BEGIN, "ann")), people())
        self.assertEqual(missing("person ann", call(BEGIN, "ann")), people())

    def test_one(self):
        self.assertEqual(by_ann("default need bob"), people("bob"))
        self.assertEqual(by_ann("default need bob and cyd", call(APPROVE, "bob")), people("cyd"))
        self.assertEqual(by_ann("default need 2 of two", call(APPROVE, "cyd")), people("bob"))

    def test_two(self):
        self.assertEqual(by_ann("default need dan and bob"), people("bob", "dan"))
        self.assertEqual(by_ann("default need 3 of more", call(APPROVE, "cyd")), people("bob", "dan"))
        self.assertEqual(by_ann("on 'x' need dan; on '*' need cyd"), people("cyd", "dan"))

    def test_three(self):
        self.assertEqual(by_ann("default need 3 of more"), people("bob", "cyd", "dan"))
        self.assertEqual(by_ann("default need dan and cyd and bob"), people("bob", "cyd", "dan"))

    def test_seven(self):
        rules = "person a, b, c, d, e, f, g, h; group all_of = h, g, f, e, d, c, b, a; default need 7 of all_of"
        self.assertEqual(missing(rules, call(BEGIN, "d"), call(EDIT, "x")), people(*"abcefgh"))
        told = missing(rules, call(BEGIN, "h"), call(EDIT, "x"), call(APPROVE, "b"))
        self.assertEqual(told, people(*"acdefg"))

    def test_over_several_paths(self):
        rules = FOUR + "on 'x' need bob; on 'y' need dan; on 'z' need two"
        calls = [call(BEGIN, "ann"), call(EDIT, "y"), call(EDIT, "z"), call(EDIT, "x")]
        self.assertEqual(missing(rules, *calls), people("bob", "dan"))
        self.assertEqual(missing(rules, *calls[:3]), people("bob", "dan"))
        self.assertEqual(missing(rules, *calls, call(APPROVE, "dan")), people("bob"))

    def test_vetoes_are_left_aside(self):
        self.assertEqual(by_ann("default need bob; on 'x' veto dan", call(VETO, "dan")), people("bob"))
        told = by_ann("default need bob; on 'x' veto bob", call(VETO, "bob"))
        self.assertEqual(told, people("bob"))
        told = by_ann("default need bob; on 'x' veto bob", call(VETO, "bob"), call(APPROVE, "bob"))
        self.assertEqual(told, people())

    def test_asking_approves_nothing(self):
        calls = [call(RULES, FOUR + "default need bob"), call(BEGIN, "ann"), call(EDIT, "x")]
        told = ask_all(*calls, call(MISSING), call(VERDICT), call(MISSING), call(WITHDRAW, "bob"), call(MISSING))
        self.assertEqual(told[3:], [people("bob"), [0, 1, 0, 4, 1], people("bob"), [0], people("bob")])


class TestWhichOfSeveral(unittest.TestCase):
    def test_the_smaller_set_though_it_has_later_people(self):
        self.assertEqual(by_ann("default need bob and cyd or dan"), people("dan"))
        self.assertEqual(by_ann("default need dan or cyd and bob"), people("dan"))

    def test_the_one_with_the_earlier_person(self):
        self.assertEqual(by_ann("default need dan or cyd or bob"), people("bob"))
        self.assertEqual(by_ann("default need 2 of more"), people("bob", "cyd"))
        self.assertEqual(by_ann("default need cyd and dan or bob and dan"), people("bob", "dan"))
        self.assertEqual(by_ann("default need cyd and dan or dan and bob or bob and cyd"), people("bob", "cyd"))

    def test_where_the_sets_first_differ(self):
        five = "person a, b, c, d, e; default need "
        calls = [call(BEGIN, "e"), call(EDIT, "x")]
        self.assertEqual(missing(five + "b and c or a and d", *calls), people("a", "d"))
        self.assertEqual(missing(five + "a and d or a and c", *calls), people("a", "c"))
        self.assertEqual(missing(five + "b and c and d or a and c and d", *calls), people("a", "c", "d"))
        self.assertEqual(missing(five + "a and c and d or a and b and d", *calls), people("a", "b", "d"))

    def test_people_in_the_order_in_which_they_were_told_not_by_name_or_group(self):
        rules = "person zoe, eve, ann; person mia; group g = ann, mia, eve, zoe; default need 2 of g"
        self.assertEqual(missing(rules, call(BEGIN, "ann"), call(EDIT, "x")), people("zoe", "eve"))
        self.assertEqual(missing(rules, call(BEGIN, "zoe"), call(EDIT, "x")), people("eve", "ann"))
        self.assertEqual(missing(rules, call(BEGIN, "zoe"), call(EDIT, "x"), call(APPROVE, "eve")), people("ann"))

    def test_one_person_who_does_for_several_needs(self):
        rules = "on 'x' need bob or dan; on '*' need cyd or dan"
        self.assertEqual(by_ann(rules), people("dan"))

    def test_what_was_approved_already_makes_another_set_the_smallest(self):
        rules = "default need bob or cyd and dan and more or cyd and dan"
        self.assertEqual(by_ann(rules), people("bob"))
        self.assertEqual(by_ann("default need bob and cyd or dan and cyd", call(APPROVE, "dan")), people("cyd"))
        self.assertEqual(by_ann("default need dan and cyd or bob and dan", call(APPROVE, "cyd")), people("dan"))


class TestOldApprovals(unittest.TestCase):
    def test_the_same_person_has_to_approve_again(self):
        self.assertEqual(by_ann("default need bob", call(APPROVE, "bob"), call(EDIT, "x")), people("bob"))
        told = by_ann("default need bob and cyd", call(APPROVE, "bob"), call(EDIT, "x"), call(APPROVE, "cyd"))
        self.assertEqual(told, people("bob"))

    def test_not_where_a_sticky_statement_matches(self):
        told = by_ann("default need bob; sticky 'x'", call(APPROVE, "bob"), call(EDIT, "x"))
        self.assertEqual(told, people())
        told = by_ann("default need bob; sticky 'y'", call(APPROVE, "bob"), call(EDIT, "x"))
        self.assertEqual(told, people("bob"))

    def test_an_approval_that_is_old_for_one_path_alone(self):
        rules = "on 'x' need 2 of more; on 'y' need 1 of more"
        self.assertEqual(by_ann(rules, call(APPROVE, "cyd"), call(EDIT, "y")), people("bob"))
        rules = "on 'x' need cyd and dan; on 'y' need cyd"
        self.assertEqual(by_ann(rules, call(APPROVE, "cyd"), call(EDIT, "y")), people("cyd", "dan"))
        self.assertEqual(by_ann(rules + "; sticky 'y'", call(APPROVE, "cyd"), call(EDIT, "y")), people("dan"))

    def test_a_new_approval_counts_for_the_older_paths_too(self):
        rules = "on 'x' need bob; on 'y' need bob"
        self.assertEqual(by_ann(rules, call(EDIT, "y"), call(EDIT, "y")), people("bob"))

    def test_an_approval_from_before_any_edit(self):
        told = missing(FOUR + "default need two", call(BEGIN, "ann"), call(APPROVE, "cyd"), call(EDIT, "x"))
        self.assertEqual(told, people("bob"))

    def test_a_withdrawn_approval(self):
        self.assertEqual(by_ann("default need bob", call(APPROVE, "bob"), call(WITHDRAW, "bob")), people("bob"))


class TestNobodyWouldDo(unittest.TestCase):
    def test_a_path_without_needs(self):
        self.assertEqual(by_ann("sticky '*'"), NOBODY_WOULD_DO)
        self.assertEqual(by_ann("on 'y' need bob"), NOBODY_WOULD_DO)
        self.assertEqual(by_ann("on 'x' need bob", call(EDIT, "y")), NOBODY_WOULD_DO)
        self.assertEqual(by_ann("on 'y' need bob", call(EDIT, "y"), call(APPROVE, "bob")), NOBODY_WOULD_DO)
        self.assertEqual(missing("person ann", call(BEGIN, "ann"), call(EDIT, "x")), NOBODY_WOULD_DO)

    def test_the_author_would_be_needed(self):
        self.assertEqual(by_ann("default need ann"), NOBODY_WOULD_DO)
        self.assertEqual(by_ann("default need ann and bob", call(APPROVE, "bob")), NOBODY_WOULD_DO)
        self.assertEqual(by_ann("group all_of = ann, two; default need 3 of all_of"), NOBODY_WOULD_DO)
        self.assertEqual(by_ann("group me = ann; default need me"), NOBODY_WOULD_DO)

    def test_the_author_would_be_needed_but_others_do_as_well(self):
        self.assertEqual(by_ann("default need ann or dan"), people("dan"))
        self.assertEqual(by_ann("group all_of = ann, two; default need 2 of all_of"), people("bob", "cyd"))
        self.assertEqual(by_ann("group all_of = ann, two; default need all_of"), people("bob"))

    def test_another_author_would_be_needed(self):
        self.assertEqual(by_ann("default need author bob"), NOBODY_WOULD_DO)
        self.assertEqual(by_ann("default need author more and bob", call(APPROVE, "bob")), NOBODY_WOULD_DO)
        self.assertEqual(by_ann("default need author two or dan"), people("dan"))
        self.assertEqual(by_ann("default need author ann and dan"), people("dan"))

    def test_one_need_of_several(self):
        self.assertEqual(by_ann("on 'x' need bob; on '*' need ann; on '**' need cyd"), NOBODY_WOULD_DO)
        told = by_ann("on 'x' need bob; on '*' need ann", call(APPROVE, "bob"), call(APPROVE, "cyd"))
        self.assertEqual(told, NOBODY_WOULD_DO)


class TestWhatIsMissingWouldDo(unittest.TestCase):
    def test_all_who_are_missing_approve(self):
        rules = FOUR + "on 'x/**' need 2 of more; on '*' need dan or cyd; sticky 'x/y'"
        calls = [call(RULES, rules), call(BEGIN, "ann"), call(EDIT, "x/y"), call(APPROVE, "dan"), call(EDIT, "z")]
        self.assertEqual(ask_all(*calls, call(MISSING), call(VERDICT))[-2:], [people("cyd"), [0, 2, 0, 4, 1, 1, 5, 1]])
        self.assertEqual(ask_all(*calls, call(APPROVE, "cyd"), call(MISSING), call(VERDICT))[-2:], [people(), [1]])


if __name__ == "__main__":
    unittest.main()
