"""Point 13: size."""

import unittest

from tests.helper import EXAMPLE, OTHER_RULES, CallsCase, ask, page_of

STAIRS = ["page a", "  part b", "    part c", "      part d", "        part e", "          p f"]


class TestSize(CallsCase):
    def assert_size(self, page, size):
        self.assertEqual(ask(("page", page), ("size",))[1], size)

    def test_page_at_first(self):
        self.assertEqual(ask(("size",)), [[1, 0, 1]])

    def test_example(self):
        self.assert_size(EXAMPLE, [11, 2, 6])

    def test_deepest(self):
        for many in range(1, 7):
            page = "\n".join(STAIRS[:many]) + "\n"
            self.assert_size(page, [many, many - 1, many])
            self.assert_size(page + "  p z\n", [many + 1, max(many - 1, 1), many + 1])

    def test_sixteen_boxes(self):
        self.assert_size("page top\n" + "".join("  p " + letter + "\n" for letter in "abcdefghijklmno"), [16, 1, 16])

    def test_hidden_ones_hide_all_in_them(self):
        for hidden in range(1, 6):
            lines = [line + (" hidden" if place == hidden else "") for place, line in enumerate(STAIRS)]
            self.assert_size("\n".join(lines) + "\n", [6, 5, hidden])

    def test_hidden_ones_hide_nothing_beside_them(self):
        self.assert_size("page top\n  part a hidden\n    p b\n  p c\n", [4, 2, 2])
        self.assert_size("page top\n  part a\n    p b hidden\n    p c\n  p d hidden\n", [5, 2, 3])

    def test_hidden_in_hidden(self):
        self.assert_size("page top\n  part a hidden\n    part b hidden\n      p c\n  p d\n", [5, 3, 2])

    def test_off_and_modal_are_visible(self):
        self.assert_size("page top\n  button a off\n  modal b\n    p c\n  live d\n", [5, 2, 5])

    def test_newest_page_in_its_own_state_at_first(self):
        shown = "page top\n  part a\n    p b\n"
        hidden = "page top\n  part a hidden\n    p b\n"
        given = ask(("page", hidden), ("size",), ("page", shown), ("size",), ("page", hidden), ("rules", OTHER_RULES), ("size",))
        self.assertEqual(given, [[3], [3, 2, 1], [3], [3, 2, 3], [3], [5], [3, 2, 1]])

    def test_visible_as_it_is_now(self):
        self.assert_answers(
            EXAMPLE, ("size", [11, 2, 6]), ("press more", [1, 0]), ("size", [11, 2, 8]), ("press stay", [1, 1]),
            ("size", [11, 2, 8]), ("press away", [0, 1]), ("size", [11, 2, 11]), ("press stay", [-6]), ("size", [11, 2, 11]),
            ("press no", [1, 1]), ("size", [11, 2, 8]), ("reset", [2, 0]), ("size", [11, 2, 6]))

    def test_as_deep_when_the_deepest_is_hidden(self):
        page = page_of("  button a press hide:b", "  part b", "    part c", "      p d")
        self.assert_answers(page, ("size", [5, 3, 5]), ("press a", [1, 0]), ("size", [5, 3, 2]))

    def test_none_visible(self):
        page = page_of("  button a press hide:top", "  p b hidden")
        self.assert_answers(page, ("size", [3, 1, 2]), ("press a", [2, 0]), ("size", [3, 1, 0]), ("reset", [1, 0]), ("size", [3, 1, 2]))


if __name__ == "__main__":
    unittest.main()
