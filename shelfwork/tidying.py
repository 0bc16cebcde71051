"""Needless parts of deeds left out, from the inmost parts out.

The deeds to look at are kept in a list, not in calls within calls: so deeds may be as deep as they like.
"""

from shelfwork.forms import are_same, parts_of, with_parts
from shelfwork.heaps import taken_off
from shelfwork.touches import handed_that_are_done, marks_of_bodies, marks_of_itself


# A deed that is tidied, its marks that are not of reads, and the names and shelves that stand in it.
class Tidy:
    def __init__(self, deed, loud, standing):
        self.deed = deed
        self.loud = loud
        self.standing = standing

    def only_reads(self):
        return len(self.loud) == 0


def without(marks, mark):
    return dict([(each, True) for each in marks if each != mark])


def standing_in(deed, parts):
    standing = {}
    for part in parts:
        standing.update(part.standing)
    if deed[0] in ("name", "read", "write", "let", "own"):
        standing[deed[1]] = True
    return standing


def loud_parts(rules, bodies, deed, parts):
    if deed[0] == "call":
        count = len(deed[2])
        done = handed_that_are_done(rules, bodies, deed[1], parts[count:])
        return [part.loud for part in parts[:count]] + [part.loud for part in done]
    if deed[0] == "own":
        return [parts[0].loud, without(parts[1].loud, ("write", deed[1]))]
    return [part.loud for part in parts]


def loud_in(rules, bodies, deed, parts):
    loud = dict([(mark, True) for mark in marks_of_itself(bodies, deed) if mark[0] != "read"])
    for marks in loud_parts(rules, bodies, deed, parts):
        loud.update(marks)
    return loud


class Tidying:
    def __init__(self, rules):
        self.rules = rules
        self.bodies = marks_of_bodies(rules)

    def whole_of(self, deed, parts):
        whole = with_parts(deed, [part.deed for part in parts])
        return Tidy(whole, loud_in(self.rules, self.bodies, deed, parts), standing_in(deed, parts))

    def then_of(self, one, other):
        if one.only_reads():
            return other
        return self.whole_of(("then", one.deed, other.deed), [one, other])

    def choice_of(self, deed, parts):
        test = parts[0].deed
        if are_same(parts[1].deed, parts[2].deed):
            return self.then_of(parts[0], parts[1])
        if test[0] == "number":
            return parts[2] if test[1] == 0 else parts[1]
        return self.whole_of(deed, parts)

    def looked_at(self, deed, parts):
        word = deed[0]
        if word == "then":
            return self.then_of(parts[0], parts[1])
        if word == "loop" and parts[1].only_reads():
            return self.then_of(parts[0], self.whole_of(("number", 0), []))
        if word in ("let", "own") and deed[1] not in parts[1].standing:
            return self.then_of(parts[0], parts[1])
        if word == "if":
            return self.choice_of(deed, parts)
        return self.whole_of(deed, parts)


def tidied(rules, deed):
    tidying = Tidying(rules)
    looked = []
    waiting = [(False, deed)]
    while len(waiting) > 0:
        place = waiting.pop()
        parts = parts_of(place[1])
        if place[0] or len(parts) == 0:
            looked.append(tidying.looked_at(place[1], taken_off(looked, len(parts))))
        else:
            waiting.append((True, place[1]))
            waiting.extend([(False, part) for part in reversed(parts)])
    return looked[0].deed
