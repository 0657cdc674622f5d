"""The calls: an object that keeps a page, its state and rules, and what it answers."""

from pageboxes.refusals import NoSuchBox, NotAPage, NotRules
from pageboxes.rules import RULES_AT_FIRST, Rules
from pageboxes.sheets import SHEET_AT_FIRST, Sheet
from pageboxes.texts import counted, counted_all, text_of

PAGE = 0
SHOWPAGE = 1
RULES = 2
SHOWRULES = 3
PARENT = 4
KIDS = 5
INSIDE = 6
SIZE = 12


class Desk:
    def __init__(self):
        self.kept_rules = Rules(RULES_AT_FIRST)
        self.put_sheet(Sheet(SHEET_AT_FIRST))

    def put_sheet(self, sheet):
        self.sheet = sheet
        self.hidden = [box.hidden for box in sheet.boxes]
        self.on = [box.on for box in sheet.boxes]

    def take_page(self, text):
        self.put_sheet(Sheet(text))
        return [len(self.sheet.boxes)]

    def take_rules(self, text):
        self.kept_rules = Rules(text)
        return [self.kept_rules.focus_count()]

    def idents_at(self, places):
        return counted_all([self.sheet.boxes[place].ident for place in places])

    def parent(self, ident):
        around = self.sheet.parents[self.sheet.place_of(ident)]
        if around < 0:
            return [0]
        return [1] + counted(self.sheet.boxes[around].ident)

    def kids(self, ident):
        outer = self.sheet.place_of(ident)
        parents = self.sheet.parents
        return self.idents_at([place for place in range(len(parents)) if parents[place] == outer])

    def inside(self, ident):
        outer = self.sheet.place_of(ident)
        sheet = self.sheet
        return self.idents_at([place for place in range(len(sheet.boxes)) if outer in sheet.places_around(place)])

    def is_visible(self, place):
        return not any([self.hidden[spot] for spot in [place] + self.sheet.places_around(place)])

    def size(self):
        boxes = self.sheet.boxes
        visible = [place for place in range(len(boxes)) if self.is_visible(place)]
        return [len(boxes), max([box.deep for box in boxes]), len(visible)]


def has_text(number):
    return number in (PAGE, RULES, PARENT, KIDS, INSIDE)


def answer_text_call(desk, number, text):
    if number == PAGE:
        return desk.take_page(text)
    if number == RULES:
        return desk.take_rules(text)
    if number == PARENT:
        return desk.parent(text)
    if number == KIDS:
        return desk.kids(text)
    return desk.inside(text)


def answer_or_refuse(desk, number, text):
    try:
        return answer_text_call(desk, number, text)
    except NotAPage:
        return [-1]
    except NotRules:
        return [-1]
    except NoSuchBox:
        return [-3]


def answer_bare_call(desk, number):
    if number == SHOWPAGE:
        return counted(desk.sheet.text)
    if number == SHOWRULES:
        return counted(desk.kept_rules.text)
    if number == SIZE:
        return desk.size()
    # The calls that aren't built yet: an answer made up here would pass for a true one.
    raise NotImplementedError("no such call")


def answers(calls):
    desk = Desk()
    given = []
    place = 0
    while place < len(calls):
        number = calls[place]
        place = place + 1
        if has_text(number):
            end = place + 1 + calls[place]
            answered = answer_or_refuse(desk, number, text_of(calls[place + 1:end]))
            place = end
        else:
            answered = answer_bare_call(desk, number)
        given.append(len(answered))
        given.extend(answered)
    return given
