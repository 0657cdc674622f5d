"""Point 8: visible, and what States says of being visible and of what can be pressed."""

import unittest

from tests.helper import EXAMPLE, CallsCase, ask, page_of

YES = [1, 1]
SEEN = [1, 0]
NO = [0, 0]


class TestVisible(CallsCase):
    def assert_visible(self, page, **told):
        self.assert_answers(page, *[("visible " + ident, answer) for ident, answer in told.items()])

    def test_example(self):
        self.assert_visible(
            EXAMPLE, top=SEEN, title=SEEN, name=SEEN, help=SEEN, stay=YES, more=YES, extra=NO, away=NO, sure=NO, ask=NO, no=NO)

    def test_page_at_first(self):
        self.assertEqual(ask(("visible", "top")), [SEEN])

    def test_hidden_by_itself(self):
        self.assert_visible(page_of("  check a hidden", "  p b hidden", "  check c"), top=SEEN, a=NO, b=NO, c=YES)

    def test_hidden_by_the_one_around_it(self):
        page = page_of("  part a hidden", "    check b", "    p c", "  check d")
        self.assert_visible(page, top=SEEN, a=NO, b=NO, c=NO, d=YES)

    def test_hidden_by_one_further_out(self):
        deep = ["  part a", "    part b", "      part c", "        part d", "          check e"]
        self.assert_visible(page_of(*deep), a=SEEN, b=SEEN, c=SEEN, d=SEEN, e=YES)
        for hidden in range(5):
            lines = [line + " hidden" * (place == hidden) for place, line in enumerate(deep)]
            told = {ident: SEEN if place < hidden else NO for place, ident in enumerate("abcde")}
            self.assert_visible(page_of(*lines), **told)

    def test_hidden_hides_nothing_around_it_nor_beside_it(self):
        page = page_of("  check a press show:a", "    check b hidden", "  check c")
        self.assert_visible(page, top=SEEN, a=YES, b=NO, c=YES)

    def test_off_is_visible_and_can_not_be_pressed(self):
        page = page_of("  check a off", "  button b off press hide:a", "  check c off on", "  check d hidden off", "  p e off")
        self.assert_visible(page, a=SEEN, b=SEEN, c=SEEN, d=NO, e=SEEN)

    def test_off_counts_for_the_box_alone(self):
        page = page_of("  part a off", "    check b", "    button c press show:a", "  check d off", "    check e")
        self.assert_visible(page, b=YES, c=YES, d=SEEN, e=YES)
        self.assert_visible("page top off\n  check a\n", top=SEEN, a=YES)

    def test_only_what_does_something_can_be_pressed(self):
        page = page_of(
            "  check a", "  link b", "  button c", "  link d press show:a", "  button e press hide:a", "  check f press flip:a")
        self.assert_visible(page, a=YES, b=SEEN, c=SEEN, d=YES, e=YES, f=YES)

    def test_kinds_that_do_nothing(self):
        page = page_of(
            "  part a", "  h1 b", "  h2 c", "  h3 d", "  p e", "  field f order 1", "  list g", "    item h", "  table i",
            "    row j", "      cell k", "      th l", "  image m", "  live n")
        self.assert_visible(page, top=SEEN, **{ident: SEEN for ident in "abcdefghijklmn"})

    def test_on_order_and_texts_change_nothing(self):
        page = page_of('  check a "A" label "B" by b hint b on order 9', '  button b "C" label "D" by a hint a order 1')
        self.assert_visible(page, a=YES, b=SEEN)

    def test_in_the_modal_only(self):
        page = page_of(
            "  check a", "  modal b", "    check c", "    part d", "      button e press show:a", "      p f", "  check g")
        self.assert_visible(page, top=SEEN, a=SEEN, b=SEEN, c=YES, d=SEEN, e=YES, f=SEEN, g=SEEN)

    def test_hidden_or_off_in_the_modal(self):
        page = page_of("  modal a", "    check b off", "    check c hidden", "    part d hidden", "      check e", "    check f")
        self.assert_visible(page, b=SEEN, c=NO, e=NO, f=YES)

    def test_hidden_modal_counts_for_nothing(self):
        self.assert_visible(page_of("  check a", "  modal b hidden", "    check c"), a=YES, b=NO, c=NO)
        page = page_of("  check a", "  part d hidden", "    modal b", "      check c")
        self.assert_visible(page, a=YES, b=NO, c=NO, d=NO)

    def test_modal_that_is_off_is_one_all_the_same(self):
        self.assert_visible(page_of("  check a", "  modal b off", "    check c"), a=SEEN, b=SEEN, c=YES)

    def test_empty_modal(self):
        self.assert_visible(page_of("  check a", "  modal b", "  check c"), a=SEEN, b=SEEN, c=SEEN)

    def test_last_visible_modal_counts(self):
        lines = ["  check a", "  modal b", "    check c", "  modal d", "    check e", "  modal f", "    check g"]
        self.assert_visible(page_of(*lines), a=SEEN, c=SEEN, e=SEEN, g=YES)
        lines[5] += " hidden"
        self.assert_visible(page_of(*lines), a=SEEN, c=SEEN, e=YES, g=NO)
        lines[3] += " hidden"
        self.assert_visible(page_of(*lines), a=SEEN, c=YES, e=NO, g=NO)
        lines[1] += " hidden"
        self.assert_visible(page_of(*lines), a=YES, c=NO, e=NO, g=NO)

    def test_hidden_modal_between_visible_ones(self):
        page = page_of("  modal a", "    check b", "  modal c hidden", "    check d", "  modal e", "    check f")
        self.assert_visible(page, b=SEEN, d=NO, f=YES)

    def test_modal_in_a_modal(self):
        lines = ["  modal a", "    check b", "    modal c", "      check d", "    check e", "  check f"]
        self.assert_visible(page_of(*lines), a=SEEN, b=SEEN, c=SEEN, d=YES, e=SEEN, f=SEEN)
        lines[2] += " hidden"
        self.assert_visible(page_of(*lines), a=SEEN, b=YES, c=NO, d=NO, e=YES, f=SEEN)
        lines[0] += " hidden"
        self.assert_visible(page_of(*lines), a=NO, b=NO, c=NO, d=NO, e=NO, f=YES)

    def test_modal_that_stands_in_what_can_be_pressed(self):
        page = page_of("  check a", "    modal b", "      check c", "      check d", "        p e")
        self.assert_visible(page, a=SEEN, b=SEEN, c=YES, d=YES, e=SEEN)

    def test_no_such_box(self):
        for wrong in ["", "gone", "sta", "stayy", "Stay", " stay", "stay ", "stay\n", "check", "on", "\x00", "\xff", "a" * 4000]:
            self.assert_refused(-3, "visible", wrong)

    def test_asking_changes_nothing(self):
        given = ask(("page", EXAMPLE), ("now",), ("visible", "stay"), ("visible", "more"), ("now",), ("visible", "stay"))
        self.assertEqual(given[4], given[1])
        self.assertEqual(given[5], given[2])


if __name__ == "__main__":
    unittest.main()
