"""Promise 2, and the numbers and places of the faults."""

import unittest

from tests.helper import FAULT, RULES, SHOW, ask_all, call, chain, counted, fault, padded

EXAMPLES = (
    ("", (4, 0)),
    ("person", (4, 6)),
    ("person a,", (4, 9)),
    ("on x need a", (4, 3)),
    ("on 'x/**/y' need a", (4, 3)),
    ("on 'x' need 2 a", (4, 14)),
    ("person a; on '*' need (a", (4, 24)),
    ("person a, and", (4, 10)),
    ("group g = a", (6, 1)),
    ("person a, b, a", (7, 1)),
    ("person a; group g = a; default need 2 of g", (8, 3)),
    ("default need author a", (6, 1)),
    ("on 'x", (2, 3)),
)


class FaultTest(unittest.TestCase):
    def check(self, *rows):
        for text, expected in rows:
            with self.subTest(text=text):
                self.assertEqual(fault(text), expected)


class TestExamples(FaultTest):
    def test_each_example_of_the_document(self):
        self.check(*EXAMPLES)

    def test_no_fault(self):
        self.check(
            ("person a", (0, 0)),
            ("person a, b; group g = b, a; on 'x/*' need 2 of g and author a or b", (0, 0)),
            ("person a; on '**' veto a; sticky 'x'; default need (a)", (0, 0)),
        )

    def test_rules_refuses_what_fault_tells(self):
        for text, expected in EXAMPLES:
            with self.subTest(text=text):
                self.assertEqual(ask_all(call(RULES, text)), [[-expected[0]]])

    def test_changes_nothing_and_does_not_look_at_the_rules_that_hold(self):
        told = ask_all(
            call(RULES, "person a"),
            call(FAULT, "person a, b"),
            call(FAULT, "default need a"),
            call(SHOW),
        )
        self.assertEqual(told, [[1], [0, 0], [6, 1], counted("person a")])


class TestTooLong(FaultTest):
    def test_length(self):
        self.check(
            (padded("person a", 1000), (0, 0)),
            (padded("person a", 1001), (1, 0)),
            (padded("person a", 2000), (1, 0)),
            (padded("person", 1000), (4, 1000)),
        )

    def test_comes_before_every_other_fault(self):
        self.check(("?" * 1001, (1, 0)), ("?" * 1000, (2, 0)))


class TestCutting(FaultTest):
    def test_words(self):
        self.check(
            ("person abcdefghijkl", (0, 0)),
            ("person abcdefghijklm", (2, 7)),
            ("person a23456789_12", (0, 0)),
            ("person a23456789_123", (2, 7)),
            ("person _a", (2, 7)),
            ("person Ab", (2, 7)),
            ("person aB", (2, 8)),
        )

    def test_numbers(self):
        people = "person a; group g = a; default need "
        self.check(
            (people + "1 of g", (0, 0)),
            (people + "01 of g", (0, 0)),
            (people + "001 of g", (2, len(people))),
            (people + "99 of g", (8, 3)),
            (people + "100 of g", (2, len(people))),
            (people + "1of g", (0, 0)),
            (people + "1_of g", (2, len(people) + 1)),
            (people + "1a", (4, len(people) + 1)),
            (people + "12a of g", (4, len(people) + 2)),
        )

    def test_pattern_tokens(self):
        self.check(
            ("sticky 'x", (2, 7)),
            ("sticky 'x y'", (2, 7)),
            ("sticky 'X'", (2, 7)),
            ("sticky '", (2, 7)),
            ("sticky 'x''", (2, 10)),
            ("sticky''", (4, 6)),
            ("sticky'x'", (0, 0)),
            ("sticky 'abcdefghijklm'", (4, 7)),
        )

    def test_blanks_and_line_ends_alone_are_passed_over(self):
        self.check(
            ("\n person\n\na ,\nb \n", (0, 0)),
            ("person\ta", (2, 6)),
            ("person\ra", (2, 6)),
            (" \n ", (4, 3)),
        )

    def test_what_begins_no_token(self):
        signs = [code for code in range(256) if chr(code) not in " \n'(),;=abcdefghijklmnopqrstuvwxyz0123456789"]
        for code in signs:
            with self.subTest(code=code):
                self.assertEqual(fault([ord(sign) for sign in "person a;"] + [code]), (2, 9))

    def test_the_first_from_the_left_is_told(self):
        self.check(("person ? ! 'x", (2, 7)), ("person 123 ?", (2, 7)), ("person a 'x ?", (2, 9)))

    def test_comes_before_what_cannot_stand(self):
        self.check(("and and ?", (2, 8)), ("(" * 50 + "?", (2, 50)), ("default need " + "(" * 41 + "?", (2, 54)))


class TestReading(FaultTest):
    def test_what_is_missing_is_told_at_the_end(self):
        self.check(
            ("on", (4, 2)),
            ("on 'x'", (4, 6)),
            ("on 'x' need", (4, 11)),
            ("on 'x' veto", (4, 11)),
            ("sticky", (4, 6)),
            ("default", (4, 7)),
            ("default need", (4, 12)),
            ("group", (4, 5)),
            ("group g", (4, 7)),
            ("group g =", (4, 9)),
            ("default need a and", (4, 18)),
            ("default need 2", (4, 14)),
            ("default need 2 of", (4, 17)),
            ("default need author", (4, 19)),
            ("person a;", (4, 9)),
            ("person a ; \n", (4, 12)),
        )

    def test_what_stands_wrong_is_told_where_it_stands(self):
        self.check(
            ("a", (4, 0)),
            ("; person a", (4, 0)),
            ("person a b", (4, 9)),
            ("person a,, b", (4, 9)),
            ("person a;; person b", (4, 9)),
            ("person 'a'", (4, 7)),
            ("person 1", (4, 7)),
            ("group g a", (4, 8)),
            ("group g = (a)", (4, 10)),
            ("sticky x", (4, 7)),
            ("sticky 'x' need a", (4, 11)),
            ("on 'x' sticky", (4, 7)),
            ("on 'x' veto (a)", (4, 12)),
            ("on 'x' veto a or b", (4, 14)),
            ("on 'x' veto 1 of g", (4, 12)),
            ("default 'x' need a", (4, 8)),
            ("default veto a", (4, 8)),
            ("default need a)", (4, 14)),
            ("default need (a))", (4, 16)),
            ("default need ()", (4, 14)),
            ("default need (a b)", (4, 16)),
            ("default need (a; person b", (4, 15)),
            ("default need a (b)", (4, 15)),
            ("default need author (a)", (4, 20)),
            ("default need author 1 of g", (4, 20)),
            ("default need 1 of (g)", (4, 18)),
            ("default need 'x'", (4, 13)),
            ("default need a and or b", (4, 19)),
            ("default need a, b", (4, 14)),
        )

    def test_words_that_are_no_names(self):
        for word in "person group on need veto sticky default of author and or".split():
            self.check(
                ("person " + word, (4, 7)),
                ("group " + word + " = a", (4, 6)),
                ("group g = " + word, (4, 10)),
                ("on 'x' veto " + word, (4, 12)),
                ("default need 1 of " + word, (4, 18)),
                ("default need author " + word, (4, 20)),
            )
            if word != "author":
                self.check(("default need " + word, (4, 13)))
        self.check(("person persons, an, ons, or_, needs", (0, 0)))

    def test_a_number_worth_nothing(self):
        self.check(("default need 0 of g", (4, 13)), ("default need 00 of g", (4, 13)), ("default need 0", (4, 13)))

    def test_patterns(self):
        for text in ("*", "**", "x/**", "*/*/*/*", "a/b/c/**", "x.y-z_1", "a23456789012"):
            self.check((f"sticky '{text}'", (0, 0)))
        for text in ("", "/", "x/", "/x", "x//y", "**/x", "***", "x*", "*x", "a/b/c/d/e", "a/b/c/d/**", "a234567890123"):
            self.check((f"sticky '{text}'", (4, 7)))

    def test_longest_pattern(self):
        self.check(
            ("sticky '" + "/".join(["a" * 12, "a" * 12, "a" * 12, "a"]) + "'", (0, 0)),
            ("sticky '" + "/".join(["a" * 12, "a" * 12, "a" * 12, "aa"]) + "'", (4, 7)),
        )

    def test_most_statements(self):
        sticky = "sticky 'x'"
        many = ";".join([sticky] * 24)
        self.check((many, (0, 0)), (many + ";" + sticky, (4, len(many))), (many + ";", (4, len(many))))

    def test_most_names_of_a_person_statement(self):
        eight = "person a,b,c,d,e,f,g,h"
        self.check((eight, (0, 0)), (eight + ",i", (4, 22)), (eight + ",a", (4, 22)))

    def test_most_names_behind_a_group(self):
        eight = "person a; group g = a,a,a,a,a,a,a,a"
        self.check((eight, (0, 0)), (eight + ",a", (4, len(eight))))


class TestLevels(FaultTest):
    def nested(self, levels):
        return "person a; default need " + "(" * levels + "a" + ")" * levels

    def test_levels(self):
        self.check(
            (self.nested(40), (0, 0)),
            (self.nested(41), (3, 23 + 40)),
            (self.nested(60), (3, 23 + 40)),
        )

    def test_ended_brackets_do_not_count(self):
        side_by_side = " and ".join(["(a)"] * 30) + " or " + " or ".join(["(" * 20 + "a" + ")" * 20] * 3)
        self.check(("person a; default need " + side_by_side, (0, 0)))
        twice = "(" * 40 + "a" + ")" * 40
        self.check(("person a; default need " + twice + " or " + twice, (0, 0)))
        refilled = "(" * 40 + "a) and (a) and ((a"
        self.check(("person a; default need " + refilled, (3, 23 + len(refilled) - 2)))

    def test_whichever_is_met_first(self):
        self.check(
            ("default need " + "(" * 40 + "a (", (4, 13 + 42)),
            ("default need " + "(" * 40 + ")(", (4, 13 + 40)),
            ("default need " + "(" * 41 + ")", (3, 13 + 40)),
            ("default need " + "(" * 41, (3, 13 + 40)),
            ("default need " + "(" * 40, (4, 13 + 40)),
            ("person " + "(" * 41, (4, 7)),
        )

    def test_comes_before_depth_and_names(self):
        self.check(("default need " + chain("or", 41) + " or " + "(" * 41, (3, 13 + len(chain("or", 41)) + 4 + 40)))


class TestDepth(FaultTest):
    def test_chains(self):
        for join in ("and", "or"):
            self.check(
                ("person a; default need " + chain(join, 40), (0, 0)),
                ("person a; default need " + chain(join, 41), (5, 0)),
                ("person a; on '*' need " + chain(join, 41), (5, 0)),
            )

    def test_to_the_right_too(self):
        def leaning(amount):
            return "person a; default need " + "a and (" * (amount - 1) + "a" + ")" * (amount - 1)

        self.check((leaning(40), (0, 0)), (leaning(41), (5, 0)))

    def test_one_more_than_the_deeper_one(self):
        deep = chain("and", 39)
        self.check(
            ("person a; default need " + deep + " or a", (0, 0)),
            ("person a; default need " + deep + " or " + deep, (0, 0)),
            ("person a; default need " + deep + " and a or a", (5, 0)),
            ("person a; default need a or " + deep + " and a", (5, 0)),
            ("person a; default need (" + deep + ") and (" + deep + ")", (0, 0)),
        )

    def test_brackets_add_nothing(self):
        self.check(("person a; default need ((((" + chain("or", 40) + "))))", (0, 0)))

    def test_a_very_deep_condition(self):
        self.check(("person a; default need a" + " or a" * 190, (5, 0)))

    def test_comes_behind_reading_and_before_names(self):
        self.check(
            ("default need " + chain("or", 41) + " or", (4, 13 + len(chain("or", 41)) + 3)),
            ("default need " + chain("or", 41) + "; and", (4, 13 + len(chain("or", 41)) + 2)),
            ("person b, b; default need " + chain("or", 41), (5, 0)),
            ("default need b; default need b; on 'x' need " + chain("or", 41), (5, 0)),
        )


class TestStatements(FaultTest):
    def test_nobody_has_the_name(self):
        self.check(
            ("person a; group g = a, b", (6, 2)),
            ("person a; group g = g", (6, 2)),
            ("person a; group g = h; group h = a", (6, 2)),
            ("person a; on 'x' need b", (6, 2)),
            ("person a; on 'x' need author b", (6, 2)),
            ("person a; on 'x' need 1 of b", (6, 2)),
            ("person a; on 'x' veto b", (6, 2)),
            ("person a; default need a and (a or b)", (6, 2)),
            ("sticky 'x'; on 'x' veto b", (6, 2)),
        )

    def test_people_and_groups_count_from_where_they_are_told(self):
        self.check(
            ("on 'x' need a; person a", (6, 1)),
            ("on 'x' veto a; person a", (6, 1)),
            ("group g = a; person a", (6, 1)),
            ("person a; on 'x' need g; group g = a", (6, 2)),
            ("person a; group g = a; on 'x' need g or author g; on 'x' veto g", (0, 0)),
        )

    def test_a_taken_name(self):
        self.check(
            ("person a, a", (7, 1)),
            ("person a; person b, a", (7, 2)),
            ("person a; group a = a", (7, 2)),
            ("person a; group g = a; person g", (7, 3)),
            ("person a; group g = a; group g = a", (7, 3)),
        )

    def test_too_few_in_a_group(self):
        people = "person a, b; group g = a, b, a; group h = g, b; default need "
        self.check(
            (people + "2 of g", (0, 0)),
            (people + "3 of g", (8, 4)),
            (people + "02 of h", (0, 0)),
            (people + "3 of h", (8, 4)),
            (people + "1 of a", (8, 4)),
        )

    def test_no_room_for_people(self):
        eight = "person a,b,c,d,e,f,g,h"
        self.check(
            (eight + "; sticky 'x'; person i", (9, 3)),
            ("person a,b,c,d; person e,f,g,h; person i", (9, 3)),
            ("person a,b,c,d; person e,f,g,h,i", (9, 2)),
            (eight + "; person a", (7, 2)),
            ("person a,b,c,d; person e,f,g,h,i,a", (9, 2)),
            ("person a,b,c,d; person e,f,g,a,h,i", (7, 2)),
        )

    def test_no_room_for_groups(self):
        groups = "person a" + "".join([f"; group g{number} = a" for number in range(8)])
        self.check(
            (groups, (0, 0)),
            (groups + "; group g8 = a", (9, 10)),
            (groups + "; group g7 = b", (7, 10)),
            (groups + "; group g8 = b", (9, 10)),
        )

    def test_a_second_default(self):
        self.check(
            ("person a; default need a; default need a", (10, 3)),
            ("person a; default need a; sticky 'x'; default need b", (10, 4)),
            ("person a; default need a; default need 2 of a", (10, 3)),
            ("person a; default need b; default need a", (6, 2)),
        )

    def test_the_first_statement_and_the_first_from_the_left(self):
        self.check(
            ("person a, a; group g = b", (7, 1)),
            ("group g = b; person a, a", (6, 1)),
            ("person a; group g = a; default need b and 2 of g", (6, 3)),
            ("person a; group g = a; default need 2 of g and b", (8, 3)),
            ("person a; group g = a; default need (a or 2 of g) and b", (8, 3)),
            ("person a; group g = a; default need a or (b and 2 of g)", (6, 3)),
            ("person a; group g = a; default need 3 of b", (6, 3)),
            ("person a; group a = b", (7, 2)),
        )


if __name__ == "__main__":
    unittest.main()
