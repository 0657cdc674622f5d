"""Points 10 and 11: deeds and now."""

import unittest

from tests.helper import EXAMPLE, CallsCase, ask, list_answer, now_answer, page_of

MANY = "zyxwvutsrqponml"


class TestDeeds(CallsCase):
    def assert_deeds(self, page, *idents):
        self.assert_answers(page, ("deeds", list_answer(*idents)))

    def test_none(self):
        self.assertEqual(ask(("deeds",)), [[0]])
        self.assert_deeds(page_of("  link a", "  button b", "  p c"))
        self.assert_deeds(page_of("  check a hidden", "  check b off", "  part c hidden", "    check d"))

    def test_one(self):
        self.assert_deeds(page_of("  link a", "  check bcdefg", "  p c"), "bcdefg")

    def test_many(self):
        self.assert_deeds(EXAMPLE, "stay", "more")
        self.assert_deeds(page_of(*["  check " + ident for ident in MANY]), *MANY)

    def test_order_is_that_of_the_page_and_not_of_ids_order_or_depth(self):
        page = page_of(
            "  check z order 9", "  part y", "    part x", "      link b order 5 press show:z", "    check c",
            "  button a order 1 press show:z")
        self.assert_deeds(page, "z", "b", "c", "a")

    def test_in_the_modal(self):
        page = page_of("  check a", "  modal b", "    check c", "    modal d", "      check e", "    check f", "  check g")
        self.assert_deeds(page, "e")
        self.assert_deeds(page.replace("modal d", "modal d hidden"), "c", "f")
        self.assert_deeds(page.replace("modal b", "modal b hidden"), "a", "g")

    def test_modal_with_nothing_to_press(self):
        self.assert_deeds(page_of("  check a", "  modal b", "    p c", "  check d"))

    def test_after_press(self):
        self.assert_answers(
            EXAMPLE, ("press more", [1, 0]), ("deeds", list_answer("stay", "more", "away")), ("press stay", [1, 1]),
            ("deeds", list_answer("stay", "more", "away")), ("press away", [0, 1]), ("deeds", list_answer("no")),
            ("press no", [1, 1]), ("press more", [2, 1]), ("deeds", list_answer("stay", "more")))

    def test_each_deed_and_no_other_box_can_be_pressed(self):
        for before in ([], ["more"], ["more", "away"], ["more", "away", "no"], ["stay", "more", "more"]):
            calls = [("page", EXAMPLE)] + [("press", ident) for ident in before]
            deeds = ask(*calls, ("deeds",))[-1]
            able = []
            for ident in ["top", "title", "name", "help", "stay", "more", "extra", "away", "sure", "ask", "no"]:
                given = ask(*calls, ("visible", ident), ("press", ident))[-2:]
                self.assertEqual(given[0][1], int(given[1][0] >= 0))
                able += [ident] * given[0][1]
            self.assertEqual(deeds, list_answer(*able))


class TestNow(CallsCase):
    def assert_now(self, page, hidden, on):
        self.assert_answers(page, ("now", now_answer(hidden, on)))

    def test_none(self):
        self.assertEqual(ask(("now",)), [[0, 0]])
        self.assert_now(page_of("  check a", "  p b"), "", "")

    def test_one(self):
        self.assert_now(page_of("  check a", "  p b hidden"), "b", "")
        self.assert_now(page_of("  check a on", "  p b"), "", "a")
        self.assert_now(page_of("  check abcdef hidden on", "  p b"), "abcdef", "abcdef")

    def test_many(self):
        self.assert_now(EXAMPLE, "extra sure", "")
        self.assert_now(page_of(*["  check " + ident + " hidden on" for ident in MANY]), " ".join(MANY), " ".join(MANY))

    def test_only_what_is_hidden_itself(self):
        page = page_of("  part c hidden", "    p d", "    part b hidden", "      p a", "  check e off on")
        self.assert_now(page, "c b", "e")

    def test_order_is_that_of_the_page(self):
        self.assert_answers(
            page_of("  check z press hide:m", "  check m press show:m", "  check a press hide:z"),
            ("press a", [1, 1]), ("reset", [0, 0]), ("press m", [0, 1]), ("press z", [1, 2]), ("press a", [2, 3]),
            ("now", now_answer("z m", "z m a")))

    def test_after_press_and_reset(self):
        self.assert_answers(
            EXAMPLE, ("press more", [1, 0]), ("now", now_answer("sure", "")), ("press stay", [1, 1]),
            ("now", now_answer("sure", "stay")), ("press away", [0, 1]), ("now", now_answer("", "stay")), ("reset", [2, 0]),
            ("now", now_answer("extra sure", "")))


if __name__ == "__main__":
    unittest.main()
