"""What the interface says: how calls are handed in and answers given back."""

import unittest

from pageboxes.pages import answers
from tests.helper import EXAMPLE, LOOKS, OTHER_RULES, RULES_AT_FIRST, CallsCase, ask, line_of, to_bytes

ALL_CALLS = [
    ("showpage",), ("page", EXAMPLE), ("page", "page"), ("showpage",), ("rules", OTHER_RULES), ("rules", ""),
    ("showrules",), ("parent", "ask"), ("parent", "top"), ("parent", ""), ("kids", "top"), ("kids", "gone"),
    ("inside", "extra"), ("inside", "Extra"), ("size",), ("visible", "stay"), ("visible", "extra"), ("visible", "x"),
    ("press", "x"), ("press", "title"), ("press", "no"), ("press", "stay"), ("press", "more"), ("now",), ("deeds",),
    ("press", "away"), ("now",), ("deeds",), ("size",), ("reset",), ("now",), ("deeds",), ("size",), ("press", "stay"),
    ("press", "more"), ("press", "away"),
]
ALL_LOOKS = LOOKS + [("visible", "top"), ("press", "top"), ("parent", "top"), ("kids", "top"), ("inside", "top"), ("reset",)]


class TestCalls(CallsCase):
    def test_numbers_written_out(self):
        self.assertEqual(answers([12]), [3, 1, 0, 1])
        self.assertEqual(answers([1]), [10, 9, 112, 97, 103, 101, 32, 116, 111, 112, 10])
        self.assertEqual(answers([4, 3, 116, 111, 112]), [1, 0])
        self.assertEqual(answers([4, 1, 116]), [1, -3])
        self.assertEqual(answers([5, 0]), [1, -3])
        self.assertEqual(answers([0, 0]), [1, -1])
        self.assertEqual(answers([2, 2, 255, 0]), [1, -1])
        page = [0, 23] + to_bytes("page top\n  p a\n  p bcd\n")
        given = [1, 3]
        self.assertEqual(answers(page + [4, 1, 97]), given + [5, 1, 3, 116, 111, 112])
        self.assertEqual(answers(page + [5, 3, 116, 111, 112]), given + [7, 2, 1, 97, 3, 98, 99, 100])
        self.assertEqual(answers(page + [6, 3, 116, 111, 112, 6, 1, 97]), given + [7, 2, 1, 97, 3, 98, 99, 100, 1, 0])
        rules = to_bytes(RULES_AT_FIRST)
        self.assertEqual(answers([3]), [len(rules) + 1, len(rules)] + rules)
        self.assertEqual(answers([2, len(rules)] + rules), [1, 4])

    def test_numbers_of_states_written_out(self):
        self.assertEqual(answers([9]), [1, 0])
        self.assertEqual(answers([10]), [2, 0, 0])
        self.assertEqual(answers([11]), [2, 0, 0])
        self.assertEqual(answers([7, 3, 116, 111, 112]), [2, 1, 0])
        self.assertEqual(answers([7, 0]), [1, -3])
        self.assertEqual(answers([8, 3, 116, 111, 112]), [1, -5])
        self.assertEqual(answers([8, 1, 255]), [1, -3])
        page = [0, 51] + to_bytes("page top\n  check a\n  p bcd hidden\n  check e hidden\n")
        given = [1, 4]
        self.assertEqual(answers(page + [7, 1, 97, 7, 1, 101]), given + [2, 1, 1, 2, 0, 0])
        self.assertEqual(answers(page + [8, 1, 97, 8, 1, 101]), given + [2, 2, 1, 1, -6])
        self.assertEqual(answers(page + [9]), given + [3, 1, 1, 97])
        self.assertEqual(answers(page + [10]), given + [8, 2, 3, 98, 99, 100, 1, 101, 0])
        self.assertEqual(answers(page + [8, 1, 97, 10]), given + [2, 2, 1, 10, 2, 3, 98, 99, 100, 1, 101, 1, 1, 97])
        self.assertEqual(answers(page + [8, 1, 97, 11, 12]), given + [2, 2, 1, 2, 2, 0, 3, 4, 1, 2])

    def test_what_is_handed_in_is_left_as_it_was(self):
        line = line_of(ALL_CALLS)
        before = list(line)
        answers(line)
        self.assertEqual(line, before)

    def test_the_same_when_called_again(self):
        line = line_of(ALL_CALLS)
        first = answers(line)
        kept = list(first)
        self.assertEqual(answers(line), kept)
        first.clear()
        self.assertEqual(answers(line), kept)

    def test_nothing_is_kept_from_one_time_to_the_next(self):
        before = ask(*ALL_LOOKS)
        ask(*ALL_CALLS)
        self.assertEqual(ask(*ALL_LOOKS), before)

    def test_a_state_is_not_kept_from_one_time_to_the_next(self):
        line = [("page", EXAMPLE), ("press", "stay"), ("press", "more"), ("now",)]
        self.assertEqual(ask(*line), ask(*line))

    def test_answers_are_a_list_of_whole_numbers(self):
        given = answers(line_of(ALL_CALLS))
        self.assertIs(type(given), list)
        for number in given:
            self.assertIs(type(number), int)

    def test_only_refusals_are_below_0(self):
        for given in ask(*ALL_CALLS):
            if min(given) < 0:
                self.assertEqual(len(given), 1)

    def test_fifty_calls(self):
        given = ask(*[("page", EXAMPLE), ("size",)] * 25)
        self.assertEqual(given, [[11], [11, 2, 6]] * 25)

    def test_fifty_calls_on_a_state(self):
        given = ask(("page", EXAMPLE), *[("press", "stay"), ("press", "more")] * 24, ("reset",))
        self.assertEqual(given, [[11]] + [[2, 1], [1, 1], [1, 0], [2, 0]] * 12 + [[2, 0]])

    def test_longest_line(self):
        given = ask(*[("kids", "a" * 1595)] * 50)
        self.assertEqual(given, [[-3]] * 50)
        given = ask(*[("page", "\n" * 4000), ("rules", "page " * 800), ("kids", "a" * 4000)] * 6)
        self.assertEqual(given, [[-1], [-1], [-3]] * 6)
        given = ask(*[("press", "a" * 1595), ("visible", "top" * 500)] * 25)
        self.assertEqual(given, [[-3], [-3]] * 25)


if __name__ == "__main__":
    unittest.main()
