"""A hall, in which deeds that do not clash go on side by side."""

from shelfwork.beside import clash_of_marks
from shelfwork.doings import Doing, touches_to_end
from shelfwork.errors import Clash, NoDeed, NotDone
from shelfwork.rooms import Room
from shelfwork.touches import touches


class Hall:
    def __init__(self, rules, store, asked):
        self.rules = rules
        self.room = Room(store, asked)
        self.doings = []
        self.marks = []

    def begin(self, deed):
        if len(self.waits_for(deed)) > 0:
            raise Clash("it clashes with a deed that is not done")
        doing = Doing(self.rules, deed)
        # Each deed rests ahead of its next touch: so one without touches to come is done at once.
        doing.go_on()
        self.doings.append(doing)
        self.marks.append(touches(self.rules, deed))
        return len(self.doings) - 1

    def going(self):
        return [number for number, doing in enumerate(self.doings) if not doing.is_done()]

    def waits_for(self, deed):
        marks = touches(self.rules, deed)
        return [number for number in self.going() if len(clash_of_marks(self.marks[number], marks)) > 0]

    def doing_of(self, number):
        if not 0 <= number < len(self.doings):
            raise NoDeed("there is no deed with this number")
        return self.doings[number]

    def turn(self, number):
        doing = self.doing_of(number)
        if doing.is_done():
            raise NotDone("it is done: it has no touch to come")
        touch = doing.do_touch(self.room)
        doing.go_on()
        return touch

    def worth(self, number):
        doing = self.doing_of(number)
        if not doing.is_done():
            raise NotDone("it is not done")
        return doing.came_to()

    def finish(self):
        for doing in self.doings:
            touches_to_end(doing, self.room)
        return [doing.came_to() for doing in self.doings]

    def store(self):
        return self.room.store()

    def said(self):
        return self.room.said()
