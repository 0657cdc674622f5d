"""Rules, one for each kind of boxes, and how they are read from their text."""

from pageboxes.kinds import KINDS
from pageboxes.refusals import NotRules
from pageboxes.texts import Words, ended_lines, is_small_word

SOURCES = ("by", "label", "text", "kids", "hint")
NO_ROLES = ("focus", "whole", "from")
LONGEST_ROLE = 8
RULES_AT_FIRST = (
    "page page from by label\n"
    "part part from by label\n"
    "h1 heading whole from by label text kids\n"
    "h2 heading whole from by label text kids\n"
    "h3 heading whole from by label text kids\n"
    "p text from text\n"
    "link link focus whole from by label text kids hint\n"
    "button button focus whole from by label text kids hint\n"
    "field field focus from by label hint\n"
    "check check focus whole from by label text kids\n"
    "list list from by label\n"
    "item item from by label text\n"
    "table table from by label\n"
    "row row\n"
    "cell cell from text\n"
    "th head whole from label text kids\n"
    "image image whole from by label\n"
    "live live from by label\n"
    "modal modal from by label\n"
)


class Rule:
    def __init__(self, role, focus, whole, sources):
        self.role = role
        self.focus = focus
        self.whole = whole
        self.sources = sources


class Rules:
    def __init__(self, text):
        self.text = text
        self.by_kind = read_rules(text)

    def focus_count(self):
        return len([kind for kind in KINDS if self.by_kind[kind].focus])


def read_rules(text):
    lines = ended_lines(text)
    if lines is None or len(lines) != len(KINDS):
        raise NotRules()
    by_kind = {}
    for place in range(len(KINDS)):
        by_kind[KINDS[place]] = read_rule(lines[place], KINDS[place])
    return by_kind


def read_rule(line, kind):
    words = Words(line)
    if not words.skip(kind):
        raise NotRules()
    role = words.take()
    if not is_small_word(role, LONGEST_ROLE) or role in NO_ROLES:
        raise NotRules()
    focus = words.skip("focus")
    whole = words.skip("whole")
    sources = []
    if words.skip("from"):
        sources = take_sources(words)
    if not words.all_taken():
        raise NotRules()
    return Rule(role, focus, whole, sources)


def take_sources(words):
    sources = []
    while words.peek() in SOURCES:
        sources.append(words.take())
    if sources == [] or len(set(sources)) != len(sources):
        raise NotRules()
    return sources
