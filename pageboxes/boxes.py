"""A box, and how it is read from its line."""

from pageboxes.kinds import KINDS, PRESSED_KINDS
from pageboxes.refusals import NotAPage
from pageboxes.texts import QUOTE, Words, is_small_word

NO_IDS = ("label", "by", "hint", "hidden", "off", "on", "order", "press")
ACT_WORDS = ("show", "hide", "flip")
ORDER_NUMBERS = ("1", "2", "3", "4", "5", "6", "7", "8", "9")
LONGEST_ID = 6
LONGEST_SAYING = 20
MOST_NAMED = 3


class Box:
    def __init__(self, deep, kind, ident):
        self.deep = deep
        self.kind = kind
        self.ident = ident
        self.own = None
        self.label = None
        self.by = []
        self.hint = None
        self.hidden = False
        self.off = False
        self.on = False
        self.order = None
        self.acts = []

    def named(self):
        idents = self.by + [act[1] for act in self.acts]
        if self.hint is not None:
            idents.append(self.hint)
        return idents

    def does_something(self):
        return self.kind == "check" or self.acts != []


def is_ident(word):
    return is_small_word(word, LONGEST_ID) and word not in NO_IDS


def is_saying(text):
    # The signs of a text are ASCII here, so these are letters and digits as the document means them.
    return len(text) <= LONGEST_SAYING and all([word.isalnum() for word in text.split(" ")])


def take_ident(words):
    ident = words.take()
    if not is_ident(ident):
        raise NotAPage()
    return ident


def take_saying(words):
    word = words.take()
    saying = word[1:-1]
    if word != QUOTE + saying + QUOTE or not is_saying(saying):
        raise NotAPage()
    return saying


def take_by(words):
    idents = []
    while is_ident(words.peek()):
        idents.append(words.take())
    if not 1 <= len(idents) <= MOST_NAMED or len(set(idents)) != len(idents):
        raise NotAPage()
    return idents


def take_order(words):
    word = words.take()
    if word not in ORDER_NUMBERS:
        raise NotAPage()
    return int(word)


def take_act(words):
    halves = words.take().split(":")
    if len(halves) != 2 or halves[0] not in ACT_WORDS or not is_ident(halves[1]):
        raise NotAPage()
    return (halves[0], halves[1])


def take_acts(words):
    acts = []
    while not words.all_taken():
        acts.append(take_act(words))
    if not 1 <= len(acts) <= MOST_NAMED:
        raise NotAPage()
    return acts


def take_texts(box, words):
    if words.peek().startswith(QUOTE):
        box.own = take_saying(words)
    if words.skip("label"):
        box.label = take_saying(words)
    if words.skip("by"):
        box.by = take_by(words)
    if words.skip("hint"):
        box.hint = take_ident(words)


def take_settings(box, words):
    box.hidden = words.skip("hidden")
    box.off = words.skip("off")
    box.on = words.skip("on")
    if words.skip("order"):
        box.order = take_order(words)
    if words.skip("press"):
        box.acts = take_acts(words)


def check_kind(box):
    if box.kind not in KINDS:
        raise NotAPage()
    if box.on and box.kind != "check":
        raise NotAPage()
    if box.acts != [] and box.kind not in PRESSED_KINDS:
        raise NotAPage()


def read_box(line):
    bare = line.lstrip(" ")
    blanks = len(line) - len(bare)
    if blanks % 2 != 0:
        raise NotAPage()
    words = Words(bare)
    kind = words.take()
    box = Box(blanks // 2, kind, take_ident(words))
    take_texts(box, words)
    take_settings(box, words)
    if not words.all_taken():
        raise NotAPage()
    check_kind(box)
    return box
