"""A state of a page: which boxes are hidden and which checks are on, and what can be pressed in it."""

from pageboxes.refusals import CannotBePressed, DoesNothing


class State:
    def __init__(self, sheet):
        self.sheet = sheet
        self.hidden = [box.hidden for box in sheet.boxes]
        self.on = [box.on for box in sheet.boxes]

    def hidden_places(self):
        return [place for place in range(len(self.hidden)) if self.hidden[place]]

    def on_places(self):
        return [place for place in range(len(self.on)) if self.on[place]]

    def is_visible(self, place):
        return not any([self.hidden[spot] for spot in [place] + self.sheet.places_around(place)])

    def visible_places(self):
        return [place for place in range(len(self.hidden)) if self.is_visible(place)]

    def modal_places(self):
        # One place, or none: of several visible modals only the last one counts.
        boxes = self.sheet.boxes
        return [place for place in self.visible_places() if boxes[place].kind == "modal"][-1:]

    def can_be_pressed(self, place):
        box = self.sheet.boxes[place]
        if not box.does_something() or box.off or not self.is_visible(place):
            return False
        around = self.sheet.places_around(place)
        return all([modal in around for modal in self.modal_places()])

    def pressable_places(self):
        return [place for place in range(len(self.hidden)) if self.can_be_pressed(place)]

    def press(self, place):
        box = self.sheet.boxes[place]
        if not box.does_something():
            raise DoesNothing()
        if not self.can_be_pressed(place):
            raise CannotBePressed()
        if box.kind == "check":
            self.on[place] = not self.on[place]
        for act in box.acts:
            self.do_act(act[0], self.sheet.place_of(act[1]))

    def do_act(self, word, place):
        if word == "show":
            self.hidden[place] = False
        elif word == "hide":
            self.hidden[place] = True
        else:
            self.hidden[place] = not self.hidden[place]
