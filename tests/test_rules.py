"""Points 3 and 4: rules and showrules."""

import itertools
import unittest

from tests.helper import EXAMPLE, OTHER_RULES, RULES_AT_FIRST, CallsCase, ask, text_answer

LINES = RULES_AT_FIRST.splitlines()
KINDS = [line.split(" ")[0] for line in LINES]
SOURCES = ["by", "label", "text", "kids", "hint"]


def with_row(end):
    """The rules at first, but for what stands behind the kind row."""
    return RULES_AT_FIRST.replace("\nrow row\n", "\nrow" + end + "\n")


class TestRules(CallsCase):
    def assert_rules(self, text, focus):
        self.assert_taken("rules", text, focus)

    def assert_no_rules(self, text):
        self.assert_refused(-1, "rules", text)

    def test_rules_at_first(self):
        self.assertEqual(ask(("showrules",)), [text_answer(RULES_AT_FIRST)])
        self.assert_rules(RULES_AT_FIRST, 4)

    def test_how_many_take_the_focus(self):
        for many in range(20):
            lines = [kind + " r" + (" focus" if place < many else "") for place, kind in enumerate(KINDS)]
            self.assert_rules("\n".join(lines) + "\n", many)

    def test_newest_rules_stand_and_the_page_stays(self):
        given = ask(("page", EXAMPLE), ("rules", OTHER_RULES), ("rules", RULES_AT_FIRST), ("showrules",),
                    ("showpage",), ("size",))
        self.assertEqual(given, [[11], [5], [4], text_answer(RULES_AT_FIRST), text_answer(EXAMPLE), [11, 2, 6]])

    def test_rules_stay_when_a_page_comes(self):
        given = ask(("rules", OTHER_RULES), ("page", EXAMPLE), ("showrules",))
        self.assertEqual(given[2], text_answer(OTHER_RULES))

    def test_roles(self):
        for role in ["a", "z", "abcdefgh", "row", "by", "label", "text", "kids", "hint", "on", "focuss", "page"]:
            self.assert_rules(with_row(" " + role), 4)
            self.assert_rules(with_row(" " + role + " focus whole from by"), 5)
        for role in ["focus", "whole", "from", "", "abcdefghi", "A", "aB", "a1", "1", "h1", '"a"', "a:", "\xe4", "a\tb"]:
            self.assert_no_rules(with_row(" " + role))
            self.assert_no_rules(with_row(" " + role + " focus whole from by"))
        self.assert_no_rules(with_row(""))

    def test_focus_and_whole(self):
        self.assert_rules(with_row(" r focus"), 5)
        self.assert_rules(with_row(" r whole"), 4)
        self.assert_rules(with_row(" r focus whole"), 5)
        for end in ["whole focus", "focus focus", "whole whole", "Focus", "x", "focus x", "whole x", "by", "focus by", '"a"']:
            self.assert_no_rules(with_row(" r " + end))
        self.assert_no_rules(with_row(" focus"))
        self.assert_no_rules(with_row(" focus whole"))

    def test_sources_in_any_order(self):
        for many in range(1, 6):
            for sources in itertools.permutations(SOURCES, many):
                text = with_row(" r from " + " ".join(sources))
                self.assertEqual(ask(("rules", text), ("showrules",)), [[4], text_answer(text)])
        self.assert_rules(with_row(" r focus whole from hint kids text label by"), 5)

    def test_no_source_twice(self):
        for source in SOURCES:
            self.assert_no_rules(with_row(" r from " + source + " " + source))
        self.assert_no_rules(with_row(" r from by label by"))
        self.assert_no_rules(with_row(" r from by label text kids hint by"))

    def test_wrong_sources(self):
        for end in ["from", "from ", "from x", "from by x", "from x by", "from from by", "from by from label", "from focus",
                    "from by focus", "from by whole", "from by,label", "from name", "from By", 'from "by"', "fromby"]:
            self.assert_no_rules(with_row(" r " + end))

    def test_blanks(self):
        for end in ["  r", " r ", " r  focus", " r focus  whole", " r from  by", " r from by  label", " r from by ", "\tr"]:
            self.assert_no_rules(with_row(end))
        self.assert_no_rules(" " + RULES_AT_FIRST)
        self.assert_no_rules("  " + RULES_AT_FIRST)
        self.assert_no_rules(RULES_AT_FIRST.replace("\nrow", "\n row"))

    def test_a_line_for_each_kind_in_order(self):
        for place in range(19):
            self.assert_no_rules("".join(line + "\n" for line in LINES[:place] + LINES[place + 1:]))
            self.assert_no_rules("".join(line + "\n" for line in LINES[:place + 1] + LINES[place:]))
            other = LINES[:place] + ["box r"] + LINES[place + 1:]
            self.assert_no_rules("".join(line + "\n" for line in other))
        for place in range(18):
            turned = LINES[:place] + [LINES[place + 1], LINES[place]] + LINES[place + 2:]
            self.assert_no_rules("".join(line + "\n" for line in turned))

    def test_a_line_without_its_kind(self):
        for line in ["r", "r focus", "r whole from by", "Row r", "rows r", "cell r", "page r"]:
            self.assert_no_rules(RULES_AT_FIRST.replace("\nrow row\n", "\n" + line + "\n"))

    def test_ends_of_lines(self):
        self.assert_no_rules("")
        self.assert_no_rules("\n")
        self.assert_no_rules("\n" * 19)
        self.assert_no_rules("\n" * 4000)
        self.assert_no_rules(RULES_AT_FIRST[:-1])
        self.assert_no_rules(RULES_AT_FIRST + "\n")
        self.assert_no_rules("\n" + RULES_AT_FIRST)
        self.assert_no_rules(RULES_AT_FIRST + "row row")
        self.assert_no_rules(RULES_AT_FIRST.replace("\n", "\r\n"))
        self.assert_no_rules(EXAMPLE)

    def test_bytes_outside(self):
        for byte in [0, 11, 13, 28, 63, 128, 160, 181, 228, 255]:
            self.assert_no_rules([byte])
            self.assert_no_rules(RULES_AT_FIRST.replace("\nrow row\n", "\nrow r" + bytes([byte]).decode("latin-1") + "\n"))


if __name__ == "__main__":
    unittest.main()
