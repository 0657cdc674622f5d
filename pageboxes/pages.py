"""The calls: an object that keeps a page, its state and rules, and what it answers."""

from pageboxes.refusals import CannotBePressed, DoesNothing, NoSuchBox, NotAPage, NotRules
from pageboxes.rules import RULES_AT_FIRST, Rules
from pageboxes.sheets import SHEET_AT_FIRST, Sheet
from pageboxes.states import State
from pageboxes.texts import counted, counted_all, text_of

PAGE = 0
SHOWPAGE = 1
RULES = 2
SHOWRULES = 3
PARENT = 4
KIDS = 5
INSIDE = 6
VISIBLE = 7
PRESS = 8
DEEDS = 9
NOW = 10
RESET = 11


class Desk:
    def __init__(self):
        self.kept_rules = Rules(RULES_AT_FIRST)
        self.put_sheet(Sheet(SHEET_AT_FIRST))

    def put_sheet(self, sheet):
        self.sheet = sheet
        self.state = State(sheet)

    def take_page(self, text):
        self.put_sheet(Sheet(text))
        return [len(self.sheet.boxes)]

    def take_rules(self, text):
        self.kept_rules = Rules(text)
        return [self.kept_rules.focus_count()]

    def idents_at(self, places):
        return counted_all([self.sheet.boxes[place].ident for place in places])

    def parent(self, ident):
        around = self.sheet.parents[self.sheet.place_of(ident)]
        if around < 0:
            return [0]
        return [1] + counted(self.sheet.boxes[around].ident)

    def kids(self, ident):
        outer = self.sheet.place_of(ident)
        parents = self.sheet.parents
        return self.idents_at([place for place in range(len(parents)) if parents[place] == outer])

    def inside(self, ident):
        outer = self.sheet.place_of(ident)
        sheet = self.sheet
        return self.idents_at([place for place in range(len(sheet.boxes)) if outer in sheet.places_around(place)])

    def visible(self, ident):
        place = self.sheet.place_of(ident)
        return [int(self.state.is_visible(place)), int(self.state.can_be_pressed(place))]

    def state_counts(self):
        return [len(self.state.hidden_places()), len(self.state.on_places())]

    def press(self, ident):
        self.state.press(self.sheet.place_of(ident))
        return self.state_counts()

    def deeds(self):
        return self.idents_at(self.state.pressable_places())

    def now(self):
        return self.idents_at(self.state.hidden_places()) + self.idents_at(self.state.on_places())

    def reset(self):
        self.state = State(self.sheet)
        return self.state_counts()

    def size(self):
        boxes = self.sheet.boxes
        return [len(boxes), max([box.deep for box in boxes]), len(self.state.visible_places())]


def has_text(number):
    return number in (PAGE, RULES, PARENT, KIDS, INSIDE, VISIBLE, PRESS)


def answer_text_call(desk, number, text):
    if number == PAGE:
        return desk.take_page(text)
    if number == RULES:
        return desk.take_rules(text)
    if number == PARENT:
        return desk.parent(text)
    if number == KIDS:
        return desk.kids(text)
    if number == INSIDE:
        return desk.inside(text)
    if number == VISIBLE:
        return desk.visible(text)
    return desk.press(text)


def answer_or_refuse(desk, number, text):
    try:
        return answer_text_call(desk, number, text)
    except NotAPage:
        return [-1]
    except NotRules:
        return [-1]
    except NoSuchBox:
        return [-3]
    except DoesNothing:
        return [-5]
    except CannotBePressed:
        return [-6]


def answer_bare_call(desk, number):
    if number == SHOWPAGE:
        return counted(desk.sheet.text)
    if number == SHOWRULES:
        return counted(desk.kept_rules.text)
    if number == DEEDS:
        return desk.deeds()
    if number == NOW:
        return desk.now()
    if number == RESET:
        return desk.reset()
    return desk.size()


def answers(calls):
    desk = Desk()
    given = []
    place = 0
    while place < len(calls):
        number = calls[place]
        place = place + 1
        if has_text(number):
            end = place + 1 + calls[place]
            answered = answer_or_refuse(desk, number, text_of(calls[place + 1:end]))
            place = end
        else:
            answered = answer_bare_call(desk, number)
        given.append(len(answered))
        given.extend(answered)
    return given
