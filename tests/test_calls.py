"""What the interface says: how calls are handed in and answers given back."""

import unittest

from pageboxes.pages import answers
from tests.helper import EXAMPLE, OTHER_RULES, RULES_AT_FIRST, CallsCase, ask, line_of, to_bytes

ALL_CALLS = [
    ("showpage",), ("page", EXAMPLE), ("page", "page"), ("showpage",), ("rules", OTHER_RULES), ("rules", ""),
    ("showrules",), ("parent", "ask"), ("parent", "top"), ("parent", ""), ("kids", "top"), ("kids", "gone"),
    ("inside", "extra"), ("inside", "Extra"), ("size",),
]


class TestCalls(CallsCase):
    def test_numbers_written_out(self):
        self.assertEqual(answers([12]), [3, 1, 0, 1])
        self.assertEqual(answers([1]), [10, 9, 112, 97, 103, 101, 32, 116, 111, 112, 10])
        self.assertEqual(answers([4, 3, 116, 111, 112]), [1, 0])
        self.assertEqual(answers([4, 1, 116]), [1, -3])
        self.assertEqual(answers([5, 0]), [1, -3])
        self.assertEqual(answers([0, 0]), [1, -1])
        self.assertEqual(answers([2, 2, 255, 0]), [1, -1])
        page = [0, 23] + to_bytes("page top\n  p a\n  p bcd\n")
        given = [1, 3]
        self.assertEqual(answers(page + [4, 1, 97]), given + [5, 1, 3, 116, 111, 112])
        self.assertEqual(answers(page + [5, 3, 116, 111, 112]), given + [7, 2, 1, 97, 3, 98, 99, 100])
        self.assertEqual(answers(page + [6, 3, 116, 111, 112, 6, 1, 97]), given + [7, 2, 1, 97, 3, 98, 99, 100, 1, 0])
        rules = to_bytes(RULES_AT_FIRST)
        self.assertEqual(answers([3]), [len(rules) + 1, len(rules)] + rules)
        self.assertEqual(answers([2, len(rules)] + rules), [1, 4])

    def test_what_is_handed_in_is_left_as_it_was(self):
        line = line_of(ALL_CALLS)
        before = list(line)
        answers(line)
        self.assertEqual(line, before)

    def test_the_same_when_called_again(self):
        line = line_of(ALL_CALLS)
        first = answers(line)
        kept = list(first)
        self.assertEqual(answers(line), kept)
        first.clear()
        self.assertEqual(answers(line), kept)

    def test_nothing_is_kept_from_one_time_to_the_next(self):
        before = ask(("showpage",), ("showrules",), ("size",))
        ask(*ALL_CALLS)
        self.assertEqual(ask(("showpage",), ("showrules",), ("size",)), before)

    def test_answers_are_a_list_of_whole_numbers(self):
        given = answers(line_of(ALL_CALLS))
        self.assertIs(type(given), list)
        for number in given:
            self.assertIs(type(number), int)

    def test_only_refusals_are_below_0(self):
        for given in ask(*ALL_CALLS):
            if min(given) < 0:
                self.assertEqual(len(given), 1)

    def test_fifty_calls(self):
        given = ask(*[("page", EXAMPLE), ("size",)] * 25)
        self.assertEqual(given, [[11], [11, 2, 6]] * 25)

    def test_longest_line(self):
        given = ask(*[("kids", "a" * 1595)] * 50)
        self.assertEqual(given, [[-3]] * 50)
        given = ask(*[("page", "\n" * 4000), ("rules", "page " * 800), ("kids", "a" * 4000)] * 6)
        self.assertEqual(given, [[-1], [-1], [-3]] * 6)


if __name__ == "__main__":
    unittest.main()
