"""Pages and rules of all sorts, right and slightly wrong, held against the document's words told another way."""

import random
import re
import unittest

from tests.helper import EXAMPLE, OTHER_RULES, RULES_AT_FIRST, CallsCase, ask, list_answer, text_answer

KINDS = [line.split(" ")[0] for line in RULES_AT_FIRST.splitlines()]
ID = r"(?!(?:label|by|hint|hidden|off|on|order|press)\b)[a-z]{1,6}\b"
SAYING = r'"(?=[^"]{1,20}")[A-Za-z0-9]+(?: [A-Za-z0-9]+)*"'
ACT = rf"(?:show|hide|flip):{ID}"
LINE = re.compile(
    rf"(?P<blanks>(?:  ){{0,5}})(?P<kind>{'|'.join(KINDS)}) (?P<ident>{ID})(?: {SAYING})?(?: label {SAYING})?"
    rf"(?: by (?P<by>{ID}(?: {ID}){{0,2}}))?(?: hint (?P<hint>{ID}))?(?P<hidden> hidden)?(?P<off> off)?(?P<on> on)?"
    rf"(?: order [1-9])?(?: press (?P<acts>{ACT}(?: {ACT}){{0,2}}))?\n", re.ASCII)
SOURCE = r"(?:by|label|text|kids|hint)"
RULE = re.compile(
    rf"(?P<kind>[a-z0-9]+) (?!(?:focus|whole|from)\b)[a-z]{{1,8}}(?P<focus> focus)?(?: whole)?"
    rf"(?: from (?P<sources>{SOURCE}(?: {SOURCE})*))?\n", re.ASCII)
# The kinds that matter to a state, so that there's much to press.
LIVELY = ["part", "link", "button", "button", "check", "check", "modal"]
HOMES = {"row": {"table"}, "cell": {"row"}, "th": {"row"}, "item": {"list"}}


def matches(pattern, text):
    found = [pattern.fullmatch(line) for line in re.findall(r"[^\n]*\n|[^\n]+$", text)]
    return found if all(found) else None


def model_page(text):
    """The boxes as (ident, parent's place, hidden, deep), or None."""
    found = matches(LINE, text)
    if not found or len(found) > 16:
        return None
    idents = [match["ident"] for match in found]
    named = []
    boxes = []
    open_places = []
    for place, match in enumerate(found):
        deep = len(match["blanks"]) // 2
        kind = match["kind"]
        by = (match["by"] or "").split()
        named += by + [act.split(":")[1] for act in (match["acts"] or "").split()] + [match["hint"]] * bool(match["hint"])
        # The kind page stands first and nowhere else, 0 deep and not hidden.
        if (place == 0) != (kind == "page") or (place == 0) != (deep == 0) or (place == 0 and match["hidden"]):
            return None
        if deep > len(open_places) or len(set(by)) < len(by):
            return None
        if match["on"] and kind != "check" or match["acts"] and kind not in ("link", "button", "check"):
            return None
        del open_places[deep:]
        around = open_places[-1] if open_places else None
        home = found[around]["kind"] if place else None
        if home not in HOMES.get(kind, {home}) or home in ("table", "row", "list") and kind not in HOMES:
            return None
        boxes.append((match["ident"], around, bool(match["hidden"]), deep))
        open_places.append(place)
    if len(set(idents)) < len(idents) or not set(named) <= set(idents):
        return None
    return boxes


def model_rules(text):
    """How many rules take the focus, or None."""
    found = matches(RULE, text)
    if not found or [match["kind"] for match in found] != KINDS:
        return None
    for match in found:
        sources = (match["sources"] or "").split()
        if len(set(sources)) < len(sources):
            return None
    return len([match for match in found if match["focus"]])


def model_looks(boxes):
    """What size is, and for each box: parent, kids, inside."""
    chains = []
    for place in range(len(boxes)):
        chain = [place]
        while boxes[chain[-1]][1] is not None:
            chain.append(boxes[chain[-1]][1])
        chains.append(chain)
    seen = [chain for chain in chains if not any(boxes[place][2] for place in chain)]
    looks = [[len(boxes), max(box[3] for box in boxes), len(seen)]]
    for place, box in enumerate(boxes):
        looks.append([0] if box[1] is None else [1] + text_answer(boxes[box[1]][0]))
        looks.append(list_answer(*[other[0] for other in boxes if other[1] == place]))
        looks.append(list_answer(*[other[0] for other, chain in zip(boxes, chains) if place in chain[1:]]))
    return looks


class ModelState:
    """A page's state as sets of ids, with the ids around each box as a path."""

    def __init__(self, text):
        self.boxes = matches(LINE, text)
        self.paths = {}
        path = []
        for box in self.boxes:
            path = path[:len(box["blanks"]) // 2] + [box["ident"]]
            self.paths[box["ident"]] = path
        self.reset()

    def reset(self):
        self.hidden = {box["ident"] for box in self.boxes if box["hidden"]}
        self.on = {box["ident"] for box in self.boxes if box["on"]}
        return self.counts()

    def counts(self):
        return [len(self.hidden), len(self.on)]

    def ordered(self, idents):
        return list_answer(*[box["ident"] for box in self.boxes if box["ident"] in idents])

    def seen(self):
        return {ident for ident, path in self.paths.items() if self.hidden.isdisjoint(path)}

    def able(self):
        seen = self.seen()
        modals = [box["ident"] for box in self.boxes if box["kind"] == "modal" and box["ident"] in seen]
        return {
            box["ident"] for box in self.boxes if (box["kind"] == "check" or box["acts"]) and not box["off"]
            and box["ident"] in seen and (not modals or modals[-1] in self.paths[box["ident"]][:-1])
        }

    def size(self):
        return [len(self.boxes), max(map(len, self.paths.values())) - 1, len(self.seen())]

    def now(self):
        return self.ordered(self.hidden) + self.ordered(self.on)

    def deeds(self):
        return self.ordered(self.able())

    def visible(self, ident):
        return [int(ident in self.seen()), int(ident in self.able())] if ident in self.paths else [-3]

    def press(self, ident):
        if ident not in self.paths:
            return [-3]
        box = [box for box in self.boxes if box["ident"] == ident][0]
        if box["kind"] != "check" and not box["acts"]:
            return [-5]
        if ident not in self.able():
            return [-6]
        if box["kind"] == "check":
            self.on ^= {ident}
        for deed, named in re.findall(r"(show|hide|flip):([a-z]+)", box["acts"] or ""):
            self.hidden = {"show": self.hidden - {named}, "hide": self.hidden | {named}, "flip": self.hidden ^ {named}}[deed]
        return self.counts()


def random_ident(source):
    return "".join(source.choice("abcxyz") for letter in range(source.choice([1, 1, 2, 6])))


def random_saying(source):
    return '"' + " ".join(random_ident(source).title() for word in range(source.choice([1, 2, 3]))) + '"'


def random_page(source, kinds=tuple(KINDS[1:]), often=0.25):
    many = source.randint(1, 16)
    idents = ["top"]
    while len(idents) < many:
        idents = sorted(set(idents[1:] + [random_ident(source)]) - {"top", "by"})
        source.shuffle(idents)
        idents.insert(0, "top")
    lines = []
    stack = []
    for place, ident in enumerate(idents):
        deep = source.randint(1, min(5, len(stack))) if place else 0
        del stack[deep:]
        home = stack[-1] if stack else None
        choices = [inner for inner in HOMES if home in HOMES[inner]]
        kind = source.choice(choices or [kind for kind in kinds if kind not in HOMES]) if place else "page"
        stack.append(kind)
        lines.append("  " * deep + kind + " " + ident + random_end(source, kind, idents, place, often))
    return "".join(line + "\n" for line in lines)


def random_end(source, kind, idents, place, often):
    acts = [source.choice(["show:", "hide:", "flip:"]) + source.choice(idents) for act in range(source.randint(1, 3))]
    by = source.sample(idents, min(len(idents), source.randint(1, 3)))
    ends = [
        random_saying(source), "label " + random_saying(source), "by " + " ".join(by), "hint " + source.choice(idents),
        "hidden" * (place > 0), "off", "on" * (kind == "check"), "order " + source.choice("123456789"),
    ]
    press = " press " + " ".join(acts) if kind in ("link", "button", "check") and source.random() < often else ""
    return "".join(" " + end for end in ends if end and source.random() < 0.25) + press


def random_walk(source, idents, many):
    """Calls that press, show or reset a state, mostly with ids of the page."""
    walk = []
    for turn in range(many):
        name = source.choice(["press"] * 8 + ["visible", "visible", "deeds", "now", "size", "reset"])
        walk.append((name, source.choice(idents + ["gone"])) if name in ("press", "visible") else (name,))
    return walk


def spoiled(source, text, words):
    place = source.randrange(len(text) + 1)
    lines = text.splitlines(keepends=True)
    spot = source.randrange(len(lines))
    way = source.randrange(6)
    if way == 0:
        return text[:place] + text[place + 1:]
    if way == 1:
        return text[:place] + source.choice(" \n\":azAZ09\t\xe4\x00") + text[place:]
    if way == 2:
        return "".join(lines[:spot] + [source.choice(["", "  "]) + lines[spot].lstrip()] + lines[spot + 1:])
    if way == 3:
        return "".join(lines[:spot] + lines[spot + 1:] + source.choice([[], [lines[spot]]]))
    pieces = text.split(" ")
    spot = source.randrange(len(pieces))
    if way == 4:
        return " ".join(pieces[:spot] + [source.choice(words)] + pieces[spot + 1:])
    return " ".join(pieces[:spot] + [source.choice(words)] + pieces[spot:])


class TestAgainstModel(CallsCase):
    def check_page(self, text):
        boxes = model_page(text)
        if boxes is None:
            given = ask(("page", EXAMPLE), ("page", text), ("showpage",), ("size",))
            self.assertEqual(given, [[11], [-1], text_answer(EXAMPLE), [11, 2, 6]], text)
            return False
        looks = [(name, box[0]) for box in boxes for name in ("parent", "kids", "inside")]
        # Two lines of calls, as a line has at most 50.
        given = ask(("page", text), ("showpage",)) + ask(("page", text), ("size",), *looks)[1:]
        self.assertEqual(given, [[len(boxes)], text_answer(text)] + model_looks(boxes), text)
        return True

    def check_rules(self, text):
        focus = model_rules(text)
        given = ask(("rules", OTHER_RULES), ("rules", text), ("showrules",))
        if focus is None:
            self.assertEqual(given[1:], [[-1], text_answer(OTHER_RULES)], text)
        else:
            self.assertEqual(given[1:], [[focus], text_answer(text)], text)
        return focus is not None

    def test_pages(self):
        source = random.Random(1)
        for turn in range(300):
            self.assertTrue(self.check_page(random_page(source)))

    def test_states(self):
        source = random.Random(4)
        pressed = {}
        for turn in range(1500):
            text = random_page(source, LIVELY, 0.75)
            model = ModelState(text)
            walk = random_walk(source, list(model.paths), 48)
            told = [getattr(model, name)(*rest) for name, *rest in walk]
            self.assertEqual(ask(("page", text), *walk)[1:], told, text)
            for call, answer in zip(walk, told):
                if call[0] == "press":
                    pressed[min(answer[0], 0)] = pressed.get(min(answer[0], 0), 0) + 1
        # Each sort of answer came often enough to tell something.
        self.assertEqual(sorted(pressed), [-6, -5, -3, 0])
        self.assertGreater(min(pressed.values()), 1000)

    def test_spoiled_pages(self):
        source = random.Random(2)
        words = KINDS + ["label", "by", "hint", "hidden", "off", "on", "order", "press", "top", "show:top", "1", '"A"', ""]
        taken = [self.check_page(spoiled(source, random_page(source), words)) for turn in range(3000)]
        self.assertGreater(taken.count(True), 100)
        self.assertGreater(taken.count(False), 1000)

    def test_spoiled_rules(self):
        source = random.Random(3)
        words = KINDS + ["focus", "whole", "from", "by", "label", "text", "kids", "hint", "role", ""]
        taken = [self.check_rules(spoiled(source, OTHER_RULES, words)) for turn in range(1500)]
        self.assertGreater(taken.count(True), 50)
        self.assertGreater(taken.count(False), 500)


if __name__ == "__main__":
    unittest.main()
