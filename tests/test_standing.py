"""Points 5, 6 and 7: parent, kids and inside."""

import unittest

from tests.helper import EXAMPLE, CallsCase, ask, list_answer, text_answer

NESTED = """\
page a
  part b
    list c
      item d
        part e
          p f
          p g
      item h
  p i
  table j
    row k
      th l
      cell m
    row n
"""
PARENTS = {"b": "a", "c": "b", "d": "c", "e": "d", "f": "e", "g": "e", "h": "c", "i": "a", "j": "a", "k": "j", "l": "k",
           "m": "k", "n": "j"}
KIDS = {"a": "bij", "b": "c", "c": "dh", "d": "e", "e": "fg", "j": "kn", "k": "lm"}
INSIDE = {"a": "bcdefghijklmn", "b": "cdefgh", "c": "defgh", "d": "efg", "e": "fg", "j": "klmn", "k": "lm"}


class TestStanding(CallsCase):
    def one(self, page, *call):
        return ask(("page", page), call)[1]

    def test_example(self):
        self.assertEqual(self.one(EXAMPLE, "parent", "ask"), [1] + text_answer("sure"))
        self.assertEqual(self.one(EXAMPLE, "kids", "extra"), list_answer("away"))
        self.assertEqual(self.one(EXAMPLE, "inside", "sure"), list_answer("ask", "no"))

    def test_page_at_first(self):
        given = ask(("parent", "top"), ("kids", "top"), ("inside", "top"))
        self.assertEqual(given, [[0], [0], [0]])

    def test_parent(self):
        self.assertEqual(self.one(NESTED, "parent", "a"), [0])
        for ident, around in PARENTS.items():
            self.assertEqual(self.one(NESTED, "parent", ident), [1] + text_answer(around))

    def test_kids(self):
        for ident in "abcdefghijklmn":
            self.assertEqual(self.one(NESTED, "kids", ident), list_answer(*KIDS.get(ident, "")))

    def test_inside(self):
        for ident in "abcdefghijklmn":
            self.assertEqual(self.one(NESTED, "inside", ident), list_answer(*INSIDE.get(ident, "")))

    def test_order_is_that_of_the_page_and_not_of_ids(self):
        page = "page top\n  p z\n  part abcdef\n    p m\n  p b\n"
        self.assertEqual(self.one(page, "kids", "top"), list_answer("z", "abcdef", "b"))
        self.assertEqual(self.one(page, "inside", "top"), list_answer("z", "abcdef", "m", "b"))

    def test_hidden_boxes_stand_as_others_do(self):
        page = "page top\n  part a hidden\n    p b hidden\n"
        self.assertEqual(self.one(page, "parent", "b"), [1] + text_answer("a"))
        self.assertEqual(self.one(page, "kids", "top"), list_answer("a"))
        self.assertEqual(self.one(page, "inside", "top"), list_answer("a", "b"))

    def test_no_such_box(self):
        for wrong in ["", "gone", "to", "topp", "Top", "TOP", " top", "top ", "top\n", "page", "?", "\x00", "\xff", '"top"',
                      "a" * 4000, "label", "top top", "top\x00"]:
            for name in ["parent", "kids", "inside"]:
                self.assert_refused(-3, name, wrong)

    def test_ids_are_those_of_the_newest_page(self):
        given = ask(("page", EXAMPLE), ("page", NESTED), ("parent", "top"), ("kids", "b"), ("page", "p"), ("inside", "k"))
        self.assertEqual(given[2:], [[-3], list_answer("c"), [-1], list_answer("l", "m")])


if __name__ == "__main__":
    unittest.main()
