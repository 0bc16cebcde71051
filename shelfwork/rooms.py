"""The four shelves, what was said, and what asks bring."""

from shelfwork.names import SHELVES


class Room:
    def __init__(self, store, asked):
        self.shelves = dict(zip(SHELVES, store))
        self.answers = list(asked)
        self.spoken = []
        self.asks = 0

    def do(self, touch):
        # Whatever the touch, its worth is last in what is told: the doing deed goes on with that.
        if touch[0] == "read":
            return ("read", touch[1], self.shelves[touch[1]])
        if touch[0] == "write":
            self.shelves[touch[1]] = touch[2]
            return touch
        if touch[0] == "say":
            self.spoken.append(touch[1])
            return touch
        return ("ask", self.next_answer())

    def next_answer(self):
        place = self.asks
        self.asks += 1
        if place < len(self.answers):
            return self.answers[place]
        return 0

    def store(self):
        return tuple([self.shelves[shelf] for shelf in SHELVES])

    def said(self):
        return list(self.spoken)
