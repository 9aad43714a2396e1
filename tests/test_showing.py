"""Promise 3: show, form and same."""

import itertools
import unittest

from tests.helper import FAULT, FORM, RULES, SAME, SHOW, ask, ask_all, ask_last, call, chain, counted, padded, shown

# Each fault from 1 to 5, with the number that refuses it.
NOT_READ_WELL = (
    (padded("person a", 1001), -1),
    ("person ?", -2),
    ("default need " + "(" * 41 + "a" + ")" * 41, -3),
    ("person", -4),
    ("default need " + chain("or", 41), -5),
)

# Read well, though rules would refuse them, from -6 on.
READ_WELL = (
    "group g = a",
    "person a, a",
    "person a; default need 2 of a",
    "person a, b, c, d, e, f, g, h; person i",
    "default need a; default need b",
)


def trees(leaves):
    """Every condition with these leaves in this order, as nested tuples."""
    if len(leaves) == 1:
        return [leaves[0]]
    found = []
    for split in range(1, len(leaves)):
        for first, second in itertools.product(trees(leaves[:split]), trees(leaves[split:])):
            found.extend([(first, "and", second), (first, "or", second)])
    return found


def in_all_brackets(tree):
    if isinstance(tree, str):
        return tree
    return f"({in_all_brackets(tree[0])} {tree[1]} {in_all_brackets(tree[2])})"


def as_told(tree):
    """The showing, straight from the document's words on round brackets."""
    if isinstance(tree, str):
        return tree
    first, join, second = tree
    first_text, second_text = as_told(first), as_told(second)
    if join == "and" and first[1:2] == ("or",):
        first_text = f"({first_text})"
    if second[1:2] == ("or",) or (join == "and" and second[1:2] == ("and",)):
        second_text = f"({second_text})"
    return f"{first_text} {join} {second_text}"


class TestForm(unittest.TestCase):
    def test_each_kind_of_statement(self):
        for text, expected in (
            ("person a", "person a"),
            ("person\na,b ,c", "person a, b, c"),
            ("group g=a", "group g = a"),
            ("group  g =a,b", "group g = a, b"),
            ("on'x/**'need a", "on 'x/**' need a"),
            ("on 'a.b/c-d'veto  g", "on 'a.b/c-d' veto g"),
            ("sticky'*'", "sticky '*'"),
            ("default  need\na", "default need a"),
            ("person a;sticky 'x' ; sticky 'y'", "person a; sticky 'x'; sticky 'y'"),
        ):
            with self.subTest(text=text):
                self.assertEqual(shown(text), expected)

    def test_each_kind_of_condition(self):
        for text, expected in (
            ("(a)", "a"),
            ("((author  a))", "author a"),
            ("2  of g", "2 of g"),
            ("02of g", "2 of g"),
            ("10 of g", "10 of g"),
            ("a  and\nb", "a and b"),
            ("(a)or(b)", "a or b"),
        ):
            with self.subTest(text=text):
                self.assertEqual(shown("default need " + text), "default need " + expected)
                self.assertEqual(shown("on 'x' need " + text), "on 'x' need " + expected)

    def test_where_brackets_stand(self):
        for text, expected in (
            ("(a or b) and c", "(a or b) and c"),
            ("a and (b or c)", "a and (b or c)"),
            ("a or (b or c)", "a or (b or c)"),
            ("a and (b and c)", "a and (b and c)"),
            ("(a or b) or c", "a or b or c"),
            ("(a and b) and c", "a and b and c"),
            ("(a and b) or c", "a and b or c"),
            ("a or (b and c)", "a or b and c"),
            ("a or b and c or d", "a or b and c or d"),
            ("a and b or c and d", "a and b or c and d"),
            ("(a) and (2 of g) or (author b)", "a and 2 of g or author b"),
            ("((a or b)) and ((c or d))", "(a or b) and (c or d)"),
        ):
            with self.subTest(text=text):
                self.assertEqual(shown("default need " + text), "default need " + expected)

    def test_all_conditions_of_up_to_five_parts(self):
        for size in range(1, 6):
            for tree in trees(["a", "2 of b", "author c", "d", "e"][:size]):
                text = shown("default need " + in_all_brackets(tree))
                self.assertEqual(text, "default need " + as_told(tree))
                self.assertEqual(shown(text), text)

    def test_chains_join_from_the_left(self):
        self.assertEqual(shown("default need (((a and b) and c) and d)"), shown("default need a and b and c and d"))
        self.assertEqual(shown("default need (((a or b) or c) or d)"), shown("default need a or b or c or d"))

    def test_deepest_conditions(self):
        self.assertEqual(shown("default need " + chain("and", 40)), "default need " + chain("and", 40))
        leaning = "default need " + "a or (" * 38 + "a or a" + ")" * 38
        self.assertEqual(shown(leaning), leaning)

    def test_a_showing_longer_than_its_text(self):
        text = ";".join(["on'x'need(a)and(b)or(c)"] * 24)
        answer = ask(FORM, text)
        self.assertEqual(answer, counted("; ".join(["on 'x' need a and b or c"] * 24)))
        self.assertEqual(ask(FORM, padded(text, 1000)), answer)

    def test_a_showing_longer_than_a_text_may_be(self):
        line = "on'abcdefgh'need(author a)and(author b)"
        answer = ask(FORM, ";".join([line] * 24))
        self.assertEqual(answer, counted("; ".join(["on 'abcdefgh' need author a and author b"] * 24)))
        self.assertGreater(answer[0], 1000)

    def test_only_the_faults_up_to_5_refuse(self):
        for text, number in NOT_READ_WELL:
            with self.subTest(number=number):
                self.assertEqual(ask(FORM, text), [number])
        for text in READ_WELL:
            with self.subTest(text=text):
                self.assertEqual(ask(FORM, text), counted(text))

    def test_leaves_the_rules_as_they_are(self):
        told = ask_all(call(RULES, "person a"), call(FORM, "person b"), call(SHOW))
        self.assertEqual(told, [[1], counted("person b"), counted("person a")])


class TestShow(unittest.TestCase):
    def test_no_rules(self):
        self.assertEqual(ask(SHOW), [0])

    def test_the_rules_that_hold(self):
        text = "person a,b;group g=a,b;on 'x'need(2 of g)and(a or b);on'*'veto g;sticky'x';default need author a"
        expected = (
            "person a, b; group g = a, b; on 'x' need 2 of g and (a or b); "
            "on '*' veto g; sticky 'x'; default need author a"
        )
        self.assertEqual(ask_last(call(RULES, text), call(SHOW)), counted(expected))
        self.assertEqual(ask_last(call(RULES, expected), call(SHOW)), counted(expected))

    def test_shown_twice_alike(self):
        told = ask_all(call(RULES, "person a"), call(SHOW), call(SHOW))
        self.assertEqual(told[1], told[2])

    def test_a_shown_text_is_taken_again(self):
        text = "person a,b; group g=b,a; default need((1of g)or(a))and b"
        again = shown(text)
        self.assertEqual(ask(FAULT, again), [0, 0])
        self.assertEqual(shown(again), again)


class TestSame(unittest.TestCase):
    def test_shown_alike(self):
        for first, second in (
            ("person a", "person a"),
            ("person a,b", " person  a ,\nb "),
            ("default need (a and b) or c", "default need a and b or c"),
            ("default need 02 of g", "default need 2 of g"),
        ):
            with self.subTest(first=first):
                self.assertEqual(ask(SAME, first, second), [1])

    def test_not_shown_alike(self):
        for first, second in (
            ("person a", "person b"),
            ("person a, b", "person b, a"),
            ("person a, b", "person a; person b"),
            ("default need a or (b or c)", "default need a or b or c"),
            ("default need a and b", "default need b and a"),
            ("sticky 'x'", "sticky '*'"),
        ):
            with self.subTest(first=first):
                self.assertEqual(ask(SAME, first, second), [0])

    def test_the_first_text_has_a_fault(self):
        for text, number in NOT_READ_WELL:
            with self.subTest(number=number):
                self.assertEqual(ask(SAME, text, "person a"), [number])

    def test_only_the_second_text_has_a_fault(self):
        for text, number in NOT_READ_WELL:
            with self.subTest(number=number):
                self.assertEqual(ask(SAME, "person a", text), [number])

    def test_both_texts_have_a_fault(self):
        for first, number in NOT_READ_WELL:
            for second, unused in NOT_READ_WELL:
                with self.subTest(number=number, second=unused):
                    self.assertEqual(ask(SAME, first, second), [number])

    def test_faults_from_6_on_are_not_looked_at(self):
        for text in READ_WELL:
            with self.subTest(text=text):
                self.assertEqual(ask(SAME, text, text), [1])
                self.assertEqual(ask(SAME, text, "person x"), [0])
                self.assertEqual(ask(SAME, "person x", text), [0])

    def test_leaves_the_rules_as_they_are(self):
        told = ask_all(call(RULES, "person a"), call(SAME, "person b", "person c"), call(SHOW))
        self.assertEqual(told, [[1], [0], counted("person a")])


if __name__ == "__main__":
    unittest.main()
