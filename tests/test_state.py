"""Point 12, reset; and which calls change the state of a page and which leave it."""

import unittest

from tests.helper import EXAMPLE, LOOKS, OTHER_RULES, CallsCase, ask, list_answer, now_answer, page_of, text_answer

PRESSES = [("press", "stay"), ("press", "more"), ("press", "away")]


class TestReset(CallsCase):
    def test_page_at_first(self):
        self.assertEqual(ask(("reset",), ("now",), ("size",)), [[0, 0], [0, 0], [1, 0, 1]])

    def test_counts(self):
        page = page_of("  part a hidden", "    p b", "    p c hidden", "  check d on", "  check e hidden on", "  check f")
        self.assert_answers(page, ("reset", [3, 2]), ("reset", [3, 2]), ("now", now_answer("a c e", "d e")))

    def test_state_is_the_one_at_first(self):
        page = page_of(
            "  check a on press show:b", "  check b hidden", "  button c press flip:d hide:c", "  p d", "  check e press hide:e")
        self.assert_answers(
            page, ("press a", [0, 0]), ("press b", [0, 1]), ("press c", [2, 1]), ("press e", [3, 2]),
            ("now", now_answer("c d e", "b e")), ("reset", [1, 1]), ("now", now_answer("b", "a")),
            ("deeds", list_answer("a", "c", "e")), ("size", [6, 1, 5]), ("press c", [3, 1]), ("reset", [1, 1]))

    def test_out_of_an_empty_modal(self):
        page = page_of("  button a press show:b", "  modal b hidden")
        self.assert_answers(page, ("press a", [0, 0]), ("deeds", [0]), ("reset", [1, 0]), ("deeds", list_answer("a")))

    def test_the_page_and_the_rules_stay(self):
        given = ask(("page", EXAMPLE), ("rules", OTHER_RULES), *LOOKS, *PRESSES, ("reset",), *LOOKS)
        self.assertEqual(given[-6:], [[2, 0]] + given[2:7])
        self.assertEqual(given[-5:-3], [text_answer(EXAMPLE), text_answer(OTHER_RULES)])


class TestState(CallsCase):
    def test_page_comes_in_its_state_at_first(self):
        given = ask(("page", EXAMPLE), *LOOKS, *PRESSES, ("page", EXAMPLE), *LOOKS)
        self.assertEqual(given[-6:], given[:6])

    def test_another_page_comes_in_its_state_at_first(self):
        other = page_of("  check stay hidden on", "  button more off", "  check extra")
        given = ask(("page", EXAMPLE), *PRESSES, ("page", other), ("now",), ("deeds",), ("size",), ("reset",))
        self.assertEqual(given[4:], [[4], now_answer("stay", "stay"), list_answer("extra"), [4, 1, 3], [1, 1]])

    def test_refused_page_leaves_the_state(self):
        for wrong in ["", "page top", EXAMPLE + EXAMPLE, EXAMPLE.replace("hide:sure", "hide:none"), "page top hidden\n"]:
            given = ask(("page", EXAMPLE), *PRESSES, *LOOKS, ("page", wrong), *LOOKS, ("reset",))
            self.assertEqual(given[-7:], [[-1]] + given[4:9] + [[2, 0]])
            self.assertEqual(given[-3], now_answer("", "stay"))

    def test_rules_leave_the_state(self):
        for rules, answer in ((OTHER_RULES, 5), (OTHER_RULES[:-1], -1), ("", -1)):
            given = ask(("page", EXAMPLE), *PRESSES, *LOOKS, ("rules", rules), *LOOKS)
            self.assertEqual(given[9], [answer])
            self.assertEqual(given[10], given[4])
            self.assertEqual(given[12:], given[6:9])
            self.assertEqual(given[13], now_answer("", "stay"))

    def test_looking_leaves_the_state(self):
        calls = [("showpage",), ("showrules",), ("deeds",), ("now",), ("size",)]
        calls += [(name, ident) for name in ("parent", "kids", "inside", "visible") for ident in ("away", "sure", "gone")]
        given = ask(("page", EXAMPLE), *PRESSES, *LOOKS, *calls, *LOOKS)
        self.assertEqual(given[-5:], given[4:9])

    def test_refused_press_leaves_the_state(self):
        for ident, refusal in (("gone", -3), ("title", -5), ("sure", -5), ("stay", -6), ("more", -6), ("away", -6)):
            self.assert_refused_behind([("page", EXAMPLE), *PRESSES], refusal, "press", ident)

    def test_press_on_the_newest_page(self):
        first = page_of("  check a", "  p b")
        other = page_of("  p b", "  check a on")
        given = ask(("page", first), ("press", "a"), ("page", other), ("press", "a"), ("now",), ("press", "b"))
        self.assertEqual(given, [[3], [0, 1], [3], [0, 0], now_answer("", ""), [-5]])


if __name__ == "__main__":
    unittest.main()
