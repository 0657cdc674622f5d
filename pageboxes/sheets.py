"""A page: its boxes, read from its text, and how they stand in one another."""

from pageboxes.boxes import read_box
from pageboxes.kinds import may_stand_in
from pageboxes.refusals import NoSuchBox, NotAPage
from pageboxes.texts import ended_lines

SHEET_AT_FIRST = "page top\n"
MOST_BOXES = 16
DEEPEST = 5


class Sheet:
    def __init__(self, text):
        self.text = text
        self.boxes = read_boxes(text)
        self.parents = [place_around(self.boxes, place) for place in range(len(self.boxes))]
        check_standing(self.boxes, self.parents)

    def place_of(self, ident):
        for place in range(len(self.boxes)):
            if self.boxes[place].ident == ident:
                return place
        raise NoSuchBox()

    def places_around(self, place):
        places = []
        around = self.parents[place]
        while around >= 0:
            places.append(around)
            around = self.parents[around]
        return places


def read_boxes(text):
    lines = ended_lines(text)
    if lines is None or not 1 <= len(lines) <= MOST_BOXES:
        raise NotAPage()
    boxes = [read_box(line) for line in lines]
    check_idents(boxes)
    check_first(boxes[0])
    for place in range(1, len(boxes)):
        check_later(boxes[place], boxes[place - 1])
    return boxes


def check_idents(boxes):
    idents = [box.ident for box in boxes]
    if len(set(idents)) != len(idents):
        raise NotAPage()
    for box in boxes:
        if not all([ident in idents for ident in box.named()]):
            raise NotAPage()


def check_first(box):
    if box.kind != "page" or box.deep != 0 or box.hidden:
        raise NotAPage()


def check_later(box, before):
    if box.kind == "page" or not 1 <= box.deep <= min(before.deep + 1, DEEPEST):
        raise NotAPage()


def check_standing(boxes, parents):
    for place in range(1, len(boxes)):
        if not may_stand_in(boxes[place].kind, boxes[parents[place]].kind):
            raise NotAPage()


def place_around(boxes, place):
    # The first box stands in none, and its -1 tells so.
    around = place - 1
    while around >= 0 and boxes[around].deep >= boxes[place].deep:
        around = around - 1
    return around
