"""Points 1 and 2: page and showpage."""

import unittest

from tests.helper import EXAMPLE, RULES_AT_FIRST, CallsCase, ask, text_answer

KINDS = [line.split(" ")[0] for line in RULES_AT_FIRST.splitlines()]
NO_IDS = ["label", "by", "hint", "hidden", "off", "on", "order", "press"]


def page(*lines):
    return "page top\n" + "".join(line + "\n" for line in lines)


class PageCase(CallsCase):
    def assert_page(self, text):
        self.assert_taken("page", text, text.count("\n"))

    def assert_no_page(self, text):
        self.assert_refused(-1, "page", text)

    def assert_lines(self, *lines):
        self.assert_page(page(*lines))

    def assert_no_lines(self, *lines):
        self.assert_no_page(page(*lines))


class TestWholePages(PageCase):
    def test_first_page(self):
        self.assertEqual(ask(("showpage",)), [text_answer("page top\n")])

    def test_example(self):
        self.assert_page(EXAMPLE)
        self.assertEqual(ask(("page", EXAMPLE)), [[11]])

    def test_newest_page_stands(self):
        given = ask(("page", EXAMPLE), ("page", "page a\n  p b\n"), ("showpage",), ("showrules",))
        self.assertEqual(given, [[11], [2], text_answer("page a\n  p b\n"), text_answer(RULES_AT_FIRST)])

    def test_everything_a_box_can_have(self):
        self.assert_lines('  check c "Own" label "Lab" by top c hint c hidden off on order 5 press show:c hide:top flip:c')

    def test_number_of_boxes(self):
        letters = "abcdefghijklmnop"
        self.assert_page("page a\n")
        self.assert_lines(*["  p " + letter for letter in letters[:15]])
        self.assert_no_lines(*["  p " + letter for letter in letters[:16]])
        self.assert_no_page("")

    def test_longest_page(self):
        end = '"aaaa bbbb cccc ddddd" label "aaaa bbbb cccc ddddd" by aaaaaa bbbbbb cccccc hint aaaaaa hidden off'
        acts = " order 9 press show:aaaaaa hide:bbbbbb flip:cccccc"
        ids = [letter * 6 for letter in "abcdefghijklmno"]
        self.assert_lines("  part aaaaaa", "    part bbbbbb", "      part cccccc", "        part dddddd",
                          *["          button " + ident + " " + end + acts for ident in ids[4:]])

    def test_ends_of_lines(self):
        self.assert_no_page("page top")
        self.assert_no_page("page top\n  p a")
        self.assert_no_page("page top\n\n")
        self.assert_no_page("\npage top\n")
        self.assert_no_page("\n")
        self.assert_no_page("page top\r\n")
        self.assert_no_page("page top\n\n  p a\n")

    def test_bytes_outside(self):
        for byte in [0, 9, 11, 13, 28, 37, 63, 127, 128, 160, 178, 181, 223, 228, 233, 255]:
            self.assert_no_page([byte])
            self.assert_no_page(list(b"page top") + [byte, 10])
            self.assert_no_page(list(b"page t") + [byte, 10])
            self.assert_no_page(list(b'page top "a') + [byte] + list(b'b"\n'))
            self.assert_no_page(list(b"page") + [byte] + list(b"top\n"))

    def test_longest_texts(self):
        self.assert_no_page([10] * 4000)
        self.assert_no_page([32] * 4000)
        self.assert_no_page([34] * 4000)
        self.assert_no_page("page top " + "a" * 3990 + "\n")


class TestStanding(PageCase):
    def test_first_box(self):
        self.assert_no_page("part top\n")
        self.assert_no_page("  page top\n")
        self.assert_no_page("page top hidden\n")
        self.assert_page('page top "T" label "L" by top hint top off order 1\n')

    def test_only_one_page_and_nothing_else_at_level_0(self):
        self.assert_no_lines("page a")
        self.assert_no_lines("  page a")
        self.assert_no_lines("p a")
        self.assert_no_lines("  p a", "p b")

    def test_levels(self):
        names = ["a", "b", "c", "d", "e", "f"]
        stairs = ["  " * (level + 1) + "part " + names[level] for level in range(6)]
        self.assert_lines(*stairs[:5])
        self.assert_no_lines(*stairs)
        self.assert_no_lines("    part a")
        self.assert_no_lines("  part a", "      part b")
        self.assert_lines(*stairs[:5], "  part f")
        self.assert_lines(*stairs[:5], "          part f")

    def test_blanks_ahead(self):
        self.assert_no_lines(" part a")
        self.assert_no_lines("   part a")
        self.assert_no_lines("\tpart a")
        self.assert_no_lines("  ")

    def test_what_stands_in_what(self):
        tight = {"table": ["row"], "row": ["cell", "th"], "list": ["item"]}
        bound = ["row", "cell", "th", "item"]
        for outer in KINDS[1:]:
            for inner in KINDS[1:]:
                fits = inner in tight[outer] if outer in tight else inner not in bound
                head = {"row": ["table x"], "cell": ["table x", "row y"], "th": ["table x", "row y"], "item": ["list x"]}
                chain = head.get(outer, []) + [outer + " a", inner + " b"]
                lines = ["  " * (level + 1) + box for level, box in enumerate(chain)]
                if fits:
                    self.assert_lines(*lines)
                else:
                    self.assert_no_lines(*lines)

    def test_what_stands_in_the_page(self):
        for kind in KINDS[1:]:
            if kind in ["row", "cell", "th", "item"]:
                self.assert_no_lines("  " + kind + " a")
            else:
                self.assert_lines("  " + kind + " a")

    def test_only_the_next_around_counts(self):
        self.assert_lines("  list l", "    item i", "      p q", "    item j")
        self.assert_no_lines("  list l", "    item i", "      p q", "        item j")
        self.assert_no_lines("  list l", "    item i", "    p q")
        self.assert_no_lines("  table t", "    row r", "  row s")
        self.assert_no_lines("  table t", "    cell c")


class TestLines(PageCase):
    def test_kinds(self):
        for kind in ["", "Part", "h4", "h", "box", "parts", "top", "?", "text"]:
            self.assert_no_lines("  " + kind + " a")

    def test_ids(self):
        for ident in ["a", "z", "abcdef", "page", "show", "check", "labels", "o", "text", "from", "focus"]:
            self.assert_lines("  p " + ident)
        for ident in NO_IDS + ["", "abcdefg", "A", "aB", "a1", "1", "h1", "a_b", "a-b", '"a"', ":", "a:"]:
            self.assert_no_lines("  p " + ident)
        self.assert_no_lines("  p")

    def test_no_id_twice(self):
        self.assert_no_lines("  p a", "  p a")
        self.assert_no_lines("  p top")
        self.assert_no_lines("  part a", "    p b", "  part c", "    p b")

    def test_words_that_are_no_ids_wherever_ids_stand(self):
        for word in NO_IDS:
            self.assert_no_lines("  p a hint " + word)
            self.assert_no_lines("  p a by " + word)
            self.assert_no_lines("  link a press show:" + word)

    def test_sayings(self):
        right = ["a", "Z", "0", "9z", "Sign in", "a b c d", "abcdefghijklmnopqrst", "abcde fghij klmno 12", "label", "on"]
        wrong = ["", " ", " a", "a ", "a  b", "abcdefghijklmnopqrstu", "abcde fghij klmno 123", "a-b", "a_b", "a.", "a\"b",
                 "a:b", "a\tb", "\xe4", "\xb2", "a\x00b"]
        for saying in right:
            self.assert_lines('  p a "' + saying + '"')
            self.assert_lines('  p a label "' + saying + '"')
            self.assert_page('page top "' + saying + '" label "' + saying + '"\n')
        for saying in wrong:
            self.assert_no_lines('  p a "' + saying + '"')
            self.assert_no_lines('  p a label "' + saying + '"')
            self.assert_no_lines('  p a "' + saying + '" label "b"')

    def test_quotes(self):
        for end in ['"', '"a', 'a"', '"abc', 'abc"', '"a"b', '""a"', '"a""', '"a" "b"', '"a""b"', '"a"label "b"', 'label',
                    'label a', 'label abc', 'label "a', 'label "abc', 'label abc"', 'label"a"', 'label "a" "b"',
                    'label "a" label "b"', 'label "a b', "'a'"]:
            self.assert_no_lines("  p x " + end)

    def test_blanks_between(self):
        for line in ["  p  a", "  p a ", '  p a  "b"', '  p a "b" ', "  p a  hidden", "  p a hidden  off", "  p a by  top",
                     "  p a by top ", "  p a order  1", "  p a\thidden", "  link a press  show:a", "  link a press show:a ",
                     "  link a press show:a  hide:a", "  link a press show: a", "  link a press show :a"]:
            self.assert_no_lines(line)

    def test_by(self):
        self.assert_lines("  p a by a", "  p b by c top", "  p c by top a b", "  p d by a b c hint top")
        self.assert_no_lines("  p a by")
        self.assert_no_lines("  p a by hidden")
        self.assert_no_lines("  p a", "  p b", "  p c by a b c top")
        self.assert_no_lines("  p a by top top")
        self.assert_no_lines("  p a", "  p b by a top a")
        self.assert_no_lines("  p a by gone")
        self.assert_no_lines("  p a by top gone")
        self.assert_no_lines("  p a by top,a")

    def test_hint(self):
        self.assert_lines("  p a hint a", "  p b hint c", "  p c hint top")
        self.assert_no_lines("  p a hint")
        self.assert_no_lines("  p a hint gone")
        self.assert_no_lines("  p a hint top a")
        self.assert_no_lines('  p a hint "top"')

    def test_hidden_and_off(self):
        for kind in ["part", "link", "field", "check", "modal", "image"]:
            for end in ["hidden", "off", "hidden off"]:
                self.assert_lines("  " + kind + " a " + end)
            for end in ["off hidden", "hidden hidden", "off off", "Hidden", "offs"]:
                self.assert_no_lines("  " + kind + " a " + end)

    def test_on_only_for_a_check(self):
        self.assert_lines("  check a on", "  check b off on", "  check c hidden on order 1")
        for kind in KINDS:
            if kind not in ["check", "page", "row", "cell", "th", "item"]:
                self.assert_no_lines("  " + kind + " a on")
        self.assert_no_page("page top on\n")
        self.assert_no_lines("  check a on on")
        self.assert_no_lines("  check a on off")

    def test_order(self):
        for number in "123456789":
            self.assert_lines("  p a order " + number, "  link b order " + number)
        for number in ["", "0", "10", "11", "12", "01", "-1", "+1", "a", "one", "1.0", '"1"', "\xb2", "1 2"]:
            self.assert_no_lines("  p a order " + number)
        self.assert_no_lines("  p a order")

    def test_acts(self):
        for kind in ["link", "button", "check"]:
            for acts in ["show:a", "hide:a", "flip:a", "show:top", "show:b hide:b", "flip:a flip:a flip:a"]:
                self.assert_lines("  " + kind + " a press " + acts, "  p b")
        for acts in ["", "show", "show:", ":a", "a", "a:show", "press:a", "shows:a", "Show:a", "show:gone", "show:A", "show:a:a",
                     "show::a", "show:a,hide:a", "show:a show:a show:a show:a", "show:a gone", "show:a hide:gone",
                     'show:"a"', "show:a press hide:a", "show:a hidden", "show:abcdefg"]:
            self.assert_no_lines("  link a press " + acts)
        self.assert_no_lines("  link a press")
        self.assert_no_lines("  link a show:a")

    def test_acts_only_where_one_presses(self):
        for kind in KINDS:
            if kind not in ["link", "button", "check", "page", "row", "cell", "th", "item"]:
                self.assert_no_lines("  " + kind + " a press show:a")
        self.assert_no_page("page top press show:top\n")
        self.assert_no_lines("  list l", "    item a press show:a")
        self.assert_no_lines("  table t", "    row r", "      cell a press show:a")

    def test_order_of_what_a_box_has(self):
        has = ['"Own"', 'label "Lab"', "by top", "hint top", "hidden", "off", "on", "order 5", "press show:a"]
        for first in range(len(has)):
            self.assert_lines("  check a " + has[first])
            self.assert_no_lines("  check a " + has[first] + " " + has[first])
            for second in range(first + 1, len(has)):
                self.assert_lines("  check a " + has[first] + " " + has[second])
                self.assert_no_lines("  check a " + has[second] + " " + has[first])

    def test_more_than_a_line_has(self):
        for end in ["x", "top", "show", "label", "text", "1", ":", "focus"]:
            self.assert_no_lines("  p a " + end)
            self.assert_no_lines("  p a hidden " + end)
            self.assert_no_lines("  p a order 1 " + end)


if __name__ == "__main__":
    unittest.main()
