"""The interface: one list of whole numbers in, one list of whole numbers out."""

import unittest

from reviewrules.changes import answers
from tests.helper import (
    APPROVE, BEGIN, EDIT, FAULT, FORM, MATCHES, MEMBERS, MISSING, PEOPLE, RULES, SAME, SHOW, STATUS, TOLD, VERDICT,
    VETO, WITHDRAW, ask_all, call, codes, counted, status,
)

MIXED = [
    (call(SHOW), [0]),
    (call(BEGIN, "a"), [-6]),
    (call(RULES, "person a, b; group g = b, a"), [2]),
    (call(BEGIN, "a"), [0]),
    (call(MATCHES, "x/*", "x/y"), [1]),
    (call(MEMBERS, "g"), [2, 1, 97, 1, 98]),
    (call(RULES, "person c, c"), [-7]),
    (call(FAULT, "person c, c"), [7, 1]),
    (call(SHOW), counted("person a, b; group g = b, a")),
    (call(SAME, "", ""), [-4]),
    (call(SAME, "person a", "person  a"), [1]),
    (call(FORM, "sticky'x'"), counted("sticky 'x'")),
    (call(MATCHES, "", ""), [-14]),
    (call(EDIT, "x/y"), [1]),
    (call(APPROVE, "b"), [1]),
    (call(VETO, "b"), [1]),
    (call(STATUS), status("a", 1, [("x/y", 1)], [("b", 1)], ["b"])),
    (call(VERDICT), [0, 1, 0, 0, 3]),
    (call(MISSING), [0]),
    (call(WITHDRAW, "b"), [0]),
    (call(TOLD, "x/y"), [0]),
    (call(RULES, "person c, d; default need d; on 'x' veto d"), [3]),
    (call(MEMBERS, "g"), [-6]),
    (call(STATUS), [0]),
    (call(MISSING), [-12]),
    (call(BEGIN, "c"), [0]),
    (call(EDIT, "x"), [1]),
    (call(APPROVE, "c"), [-13]),
    (call(VETO, "d"), [1]),
    (call(TOLD, "x"), [2, 2, 4, 3, 2]),
    (call(VERDICT), [0, 2, 0, 2, 1, 0, 3, 2]),
    (call(MISSING), [1, 1, 1, 100]),
    (call(WITHDRAW, "d"), [0]),
    (call(APPROVE, "d"), [1]),
    (call(VERDICT), [1]),
    (call(SHOW), counted("person c, d; default need d; on 'x' veto d")),
]


def joined(calls):
    return [number for one in calls for number in one]


class TestAnswers(unittest.TestCase):
    def test_written_out_number_by_number(self):
        calls = [2, 0, 8] + codes("person a") + [5, 1, 97, 6, 1, 42, 1, 97, 7, 0, 1, 2] + codes("an") + [2]
        expected = [1, 0, 1, 1, 3, 1, 1, 97, 1, 1, 1, -6, 2, 4, 0, 9, 8] + codes("person a")
        self.assertEqual(answers(calls), expected)

    def test_the_calls_on_a_change_written_out_number_by_number(self):
        rules = codes("person a,b;default need b")
        calls = [0, len(rules)] + rules + [7, 1, 97, 8, 1, 120, 9, 1, 98, 10, 1, 98, 11, 1, 98, 12, 13, 14, 15, 1, 120]
        expected = [1, 2, 1, 0, 1, 1, 1, 1, 1, 1, 1, 0]
        expected += [10, 1, 1, 97, 1, 1, 1, 120, 1, 0, 0]
        expected += [5, 0, 1, 0, 2, 1, 4, 1, 1, 1, 98, 3, 1, 2, 4]
        self.assertEqual(answers(calls), expected)

    def test_all_sixteen_calls_are_among_the_mixed(self):
        self.assertEqual({one[0] for one, told in MIXED}, set(range(16)))

    def test_several_calls_in_any_order_on_one_object(self):
        self.assertEqual(ask_all(*[one for one, told in MIXED]), [told for one, told in MIXED])

    def test_what_is_handed_in_is_as_it_was(self):
        calls = joined([one for one, told in MIXED])
        before = list(calls)
        answers(calls)
        self.assertEqual(calls, before)

    def test_what_is_handed_in_is_not_changed_for_a_while_either(self):
        class Unchanging(list):
            def refuse(self, *given):
                raise AssertionError("the list was changed")

            append = extend = insert = pop = remove = clear = sort = reverse = refuse
            __setitem__ = __delitem__ = __iadd__ = __imul__ = refuse

        calls = joined([one for one, told in MIXED])
        self.assertEqual(answers(Unchanging(calls)), answers(calls))

    def test_nothing_is_kept_from_one_time_to_the_next(self):
        calls = joined([one for one, told in MIXED])
        first = answers(calls)
        self.assertEqual(answers(calls), first)
        self.assertEqual(answers([SHOW]), [1, 0])
        self.assertEqual(answers([STATUS, VERDICT, MISSING]), [1, 0, 1, -12, 1, -12])
        self.assertEqual(answers(call(BEGIN, "c")), [1, -6])
        first.clear()
        self.assertEqual(len(answers(calls)), sum([1 + len(told) for one, told in MIXED]))

    def test_plain_whole_numbers_in_a_plain_list(self):
        told = answers(joined([one for one, told in MIXED]))
        self.assertIs(type(told), list)
        self.assertEqual({type(number) for number in told}, {int})

    def test_four_hundred_calls(self):
        told = ask_all(*([call(RULES, PEOPLE)] + [call(MEMBERS, "all_of")] * 399))
        self.assertEqual(told[0], [3])
        self.assertEqual(told[1:], [[3] + counted("ann") + counted("bob") + counted("cyd")] * 399)

    def test_the_longest_texts(self):
        numbers = [255] * 2000
        told = ask_all(*([call(FAULT, numbers), call(RULES, numbers), call(SAME, numbers, numbers)] * 7))
        self.assertEqual(told, [[1, 0], [-1], [-1]] * 7)


if __name__ == "__main__":
    unittest.main()
