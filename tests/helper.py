"""Hands calls in, and takes the answers apart."""

import unittest

from pageboxes.pages import answers

NUMBERS = {
    "page": 0, "showpage": 1, "rules": 2, "showrules": 3, "parent": 4, "kids": 5, "inside": 6,
    "visible": 7, "press": 8, "deeds": 9, "now": 10, "reset": 11, "size": 12,
}

RULES_AT_FIRST = """\
page page from by label
part part from by label
h1 heading whole from by label text kids
h2 heading whole from by label text kids
h3 heading whole from by label text kids
p text from text
link link focus whole from by label text kids hint
button button focus whole from by label text kids hint
field field focus from by label hint
check check focus whole from by label text kids
list list from by label
item item from by label text
table table from by label
row row
cell cell from text
th head whole from label text kids
image image whole from by label
live live from by label
modal modal from by label
"""

EXAMPLE = """\
page top
  h1 title "Sign in"
  field name label "Your name" hint help
  p help "As on your card"
  check stay "Stay here"
  button more "More" press flip:extra
  part extra hidden
    link away "Leave" press show:sure
  modal sure hidden
    p ask "Really"
    button no "No" press hide:sure
"""

# Not as at first, so that a refused call that falls back to the rules at first is seen.
OTHER_RULES = RULES_AT_FIRST.replace("p text from text", "p words focus from hint kids")

# The calls that show all that an object keeps.
LOOKS = [("showpage",), ("showrules",), ("size",), ("now",), ("deeds",)]


def to_bytes(text):
    return list(text) if isinstance(text, (list, bytes)) else list(text.encode("latin-1"))


def call(name, *texts):
    numbers = [NUMBERS[name]]
    for text in texts:
        numbers += [len(to_bytes(text))] + to_bytes(text)
    return numbers


def line_of(calls):
    return [number for one in calls for number in call(*one)]


def split_answers(numbers):
    found = []
    place = 0
    while place < len(numbers):
        end = place + 1 + numbers[place]
        found.append(numbers[place + 1:end])
        place = end
    return found


def ask(*calls):
    """The answers to calls like ("kids", "top") on one new object, a list of numbers for each."""
    return split_answers(answers(line_of(calls)))


def text_answer(text):
    return [len(to_bytes(text))] + to_bytes(text)


def list_answer(*texts):
    return [len(texts)] + [number for text in texts for number in text_answer(text)]


def now_answer(hidden, on):
    """The ids in each of two texts, with a blank between neighbours, as now answers them."""
    return list_answer(*hidden.split()) + list_answer(*on.split())


def page_of(*lines):
    """The text of a page whose first box is top, with these lines for the others."""
    return "page top\n" + "".join(line + "\n" for line in lines)


class CallsCase(unittest.TestCase):
    def assert_taken(self, name, text, answer):
        given = ask((name, text), ("show" + name,))
        self.assertEqual(given, [[answer], text_answer(text)], text)

    def assert_refused(self, refusal, *wrong):
        """The call is refused, and everything is then as it was: at first, after page and rules, and after press."""
        taken = [("page", EXAMPLE), ("rules", OTHER_RULES)]
        for before in ([], taken, taken + [("press", "stay"), ("press", "more")]):
            self.assert_refused_behind(before, refusal, *wrong)

    def assert_refused_behind(self, before, refusal, *wrong):
        given = ask(*before, *LOOKS, wrong, *LOOKS)[len(before):]
        self.assertEqual(given[len(LOOKS)], [refusal], wrong)
        self.assertEqual(given[len(LOOKS) + 1:], given[:len(LOOKS)], wrong)

    def assert_answers(self, page, *pairs):
        """On this page each call, written like "press more", is answered as told beside it."""
        given = ask(("page", page), *[call.split() for call, answer in pairs])
        self.assertEqual(given[0], [page.count("\n")], page)
        self.assertEqual([(call, answer) for (call, told), answer in zip(pairs, given[1:], strict=True)], list(pairs), page)
