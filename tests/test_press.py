"""Point 9: press, and what States says of pressing."""

import unittest

from tests.helper import EXAMPLE, OTHER_RULES, CallsCase, ask, list_answer, now_answer, page_of, text_answer


class TestPress(CallsCase):
    def assert_refused_on(self, page, refusal, *idents):
        """Refused on this page as it is at first and after rules, and everything is then as it was."""
        for ident in idents:
            for before in ([("page", page)], [("page", page), ("rules", OTHER_RULES)]):
                self.assert_refused_behind(before, refusal, "press", ident)

    def test_the_whole_example(self):
        self.assert_answers(
            EXAMPLE, ("parent ask", [1] + text_answer("sure")), ("kids extra", list_answer("away")), ("visible away", [0, 0]),
            ("press away", [-6]), ("press more", [1, 0]), ("press stay", [1, 1]), ("press away", [0, 1]),
            ("deeds", list_answer("no")), ("press stay", [-6]), ("press no", [1, 1]), ("press title", [-5]),
            ("now", now_answer("sure", "stay")), ("reset", [2, 0]), ("size", [11, 2, 6]))

    def test_check_without_acts(self):
        page = page_of("  check a", "  check b on", "  p c hidden")
        self.assert_answers(
            page, ("press a", [1, 2]), ("now", now_answer("c", "a b")), ("press b", [1, 1]), ("now", now_answer("c", "a")),
            ("press a", [1, 0]), ("press a", [1, 1]), ("press b", [1, 2]), ("now", now_answer("c", "a b")))

    def test_link_and_button_are_never_on(self):
        page = page_of("  link a press show:a", "  button b press show:a", "  check c on")
        self.assert_answers(page, ("press a", [0, 1]), ("press b", [0, 1]), ("now", now_answer("", "c")))

    def test_show(self):
        page = page_of("  link a press show:b", "  p b hidden", "  p c hidden")
        self.assert_answers(
            page, ("press a", [1, 0]), ("now", now_answer("c", "")), ("visible b", [1, 0]), ("press a", [1, 0]),
            ("now", now_answer("c", "")))

    def test_hide(self):
        page = page_of("  link a press hide:b", "  p b", "  p c")
        self.assert_answers(
            page, ("press a", [1, 0]), ("now", now_answer("b", "")), ("visible b", [0, 0]), ("press a", [1, 0]),
            ("now", now_answer("b", "")))

    def test_flip(self):
        page = page_of("  link a press flip:b", "  p b", "  p c")
        self.assert_answers(
            page, ("press a", [1, 0]), ("now", now_answer("b", "")), ("press a", [0, 0]), ("now", now_answer("", "")),
            ("press a", [1, 0]))

    def test_three_acts_on_three_boxes(self):
        page = page_of("  button a press show:b hide:c flip:d", "  p b hidden", "  p c", "  p d hidden", "  p e hidden")
        self.assert_answers(
            page, ("press a", [2, 0]), ("now", now_answer("c e", "")), ("press a", [3, 0]), ("now", now_answer("c d e", "")))

    def test_acts_on_the_same_box_one_after_the_other(self):
        ends = {
            "flip:b flip:b": [0, 1], "flip:b flip:b flip:b": [1, 0], "show:b hide:b": [1, 1], "hide:b show:b": [0, 0],
            "show:b flip:b": [1, 1], "hide:b flip:b": [0, 0], "flip:b show:b": [0, 0], "flip:b hide:b": [1, 1],
            "show:b hide:b flip:b": [0, 0], "hide:b show:b flip:b": [1, 1], "flip:b show:b hide:b": [1, 1],
            "show:b show:b": [0, 0], "hide:b hide:b hide:b": [1, 1],
        }
        for acts, (shown, hidden) in ends.items():
            self.assert_answers(page_of("  button a press " + acts, "  p b"), ("press a", [shown, 0]))
            self.assert_answers(page_of("  button a press " + acts, "  p b hidden"), ("press a", [hidden, 0]))

    def test_acts_that_name_the_pressed_box(self):
        for deed in ("hide", "flip"):
            for kind, on in (("link", 0), ("button", 0), ("check", 1)):
                page = page_of("  " + kind + " a press " + deed + ":a show:b", "  p b hidden")
                self.assert_answers(page, ("press a", [1, on]), ("now", now_answer("a", "a" * on)), ("press a", [-6]))

    def test_acts_that_name_a_box_around_it(self):
        page = page_of("  part a", "    part b", "      button c press hide:a hide:d show:e", "  p d", "  p e hidden")
        self.assert_answers(
            page, ("press c", [2, 0]), ("now", now_answer("a d", "")), ("visible c", [0, 0]), ("press c", [-6]), ("size", [6, 3, 2]))

    def test_acts_that_name_a_box_in_it(self):
        page = page_of("  button a press flip:b", "    part b hidden", "      check c")
        self.assert_answers(
            page, ("press c", [-6]), ("press a", [0, 0]), ("press c", [0, 1]), ("press a", [1, 1]), ("press c", [-6]))

    def test_acts_that_name_the_first_box(self):
        page = page_of("  button a press hide:top", "  check b press show:top flip:top", "  p c")
        for first, counts, on in (("a", [1, 0], ""), ("b", [1, 1], "b")):
            self.assert_answers(
                page, ("press " + first, counts), ("now", now_answer("top", on)), ("deeds", [0]), ("press a", [-6]),
                ("press b", [-6]), ("press c", [-5]), ("visible top", [0, 0]), ("size", [4, 1, 0]), ("reset", [0, 0]),
                ("size", [4, 1, 4]))

    def test_check_with_acts(self):
        page = page_of("  check a press flip:b", "  p b", "  check c on press hide:d", "  check d on")
        self.assert_answers(
            page, ("press a", [1, 3]), ("now", now_answer("b", "a c d")), ("press a", [0, 2]), ("press c", [1, 1]),
            ("now", now_answer("d", "d")), ("press c", [1, 2]), ("press d", [-6]), ("now", now_answer("d", "c d")))

    def test_hidden_checks_stay_on(self):
        page = page_of("  button a press hide:b", "  part b", "    check c on")
        self.assert_answers(page, ("press a", [1, 1]), ("now", now_answer("b", "c")), ("press c", [-6]))

    def test_only_the_box_named_is_hidden_or_shown(self):
        page = page_of("  button a press hide:b", "  button d press show:b", "  part b", "    p c hidden", "    p e")
        self.assert_answers(
            page, ("press a", [2, 0]), ("now", now_answer("b c", "")), ("press d", [1, 0]), ("now", now_answer("c", "")),
            ("visible c", [0, 0]), ("visible e", [1, 0]))

    def test_shown_modal_shuts_out_the_rest(self):
        page = page_of("  button a press show:m", "  check b", "  modal m hidden", "    button c press hide:m", "    check d")
        self.assert_answers(
            page, ("press b", [1, 1]), ("press d", [-6]), ("press a", [0, 1]), ("press a", [-6]), ("press b", [-6]),
            ("press d", [0, 2]), ("press c", [1, 2]), ("press d", [-6]), ("press b", [1, 1]))

    def test_modals_one_over_the_other(self):
        page = page_of(
            "  check a", "  modal b", "    button c press show:d", "  modal d hidden", "    button e press hide:d",
            "    button f press hide:b")
        self.assert_answers(
            page, ("press a", [-6]), ("press c", [0, 0]), ("press c", [-6]), ("press e", [1, 0]), ("press c", [0, 0]),
            ("press f", [1, 0]), ("press a", [-6]), ("press e", [2, 0]), ("press a", [2, 1]))

    def test_no_such_box(self):
        for wrong in ["", "gone", "sta", "stayy", "Stay", " stay", "stay ", "stay\n", "check", "on", "\x00", "\xff", "a" * 4000]:
            self.assert_refused(-3, "press", wrong)

    def test_does_not_do_anything(self):
        page = page_of(
            "  link a", "  button b", "  part c", "  h1 d", "  h2 e", "  h3 f", "  p g", "  field h", "  list i", "    item j",
            "  table k", "    row l", "      th m", "      cell n", "  live o")
        self.assert_refused_on(page, -5, "top", *"abcdefghijklmno")
        self.assert_refused_on(page_of("  image a", "  modal b", "    p c"), -5, *"abc")

    def test_can_not_be_pressed(self):
        page = page_of(
            "  check a off", "  button b off press hide:g", "  check c hidden", "  part d hidden", "    link e press hide:g",
            "    part h", "      check f on", "  p g")
        self.assert_refused_on(page, -6, *"abcef")

    def test_outside_the_modal(self):
        page = page_of("  check a", "  button b press hide:m", "  modal m", "    p d", "  link e press hide:m")
        self.assert_refused_on(page, -6, *"abe")
        self.assert_refused_on(page, -5, "m", "d", "top")

    def test_doing_nothing_is_told_ahead_of_not_to_be_pressed(self):
        page = page_of(
            "  link a hidden", "  button b off", "  p c hidden", "  part d hidden", "    link e", "    h1 f", "  modal g",
            "  button h", "  field i off", "  modal k hidden off")
        self.assert_refused_on(page, -5, *"abcdefghik")

    def test_off_and_on_are_of_the_page_and_stay(self):
        page = page_of("  check a off on", "  check b press hide:a show:a")
        self.assert_answers(page, ("press a", [-6]), ("press b", [0, 2]), ("press a", [-6]), ("now", now_answer("", "a b")))

    def test_the_pages_text_stays(self):
        given = ask(("page", EXAMPLE), ("press", "more"), ("press", "stay"), ("showpage",))
        self.assertEqual(given[3], text_answer(EXAMPLE))

    def test_how_boxes_stand_and_the_rules_stay(self):
        looks = [("showrules",), ("parent", "away"), ("kids", "top"), ("inside", "top")]
        given = ask(("page", EXAMPLE), ("rules", OTHER_RULES), *looks, ("press", "more"), ("press", "stay"), *looks)
        self.assertEqual(given[2:6], given[8:])

    def test_page_at_first(self):
        self.assertEqual(ask(("press", "top"), ("press", "to")), [[-5], [-3]])


if __name__ == "__main__":
    unittest.main()
