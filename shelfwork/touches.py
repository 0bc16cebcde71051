"""What deeds may touch, whatever is on the shelves and whatever asks bring.

The deeds to look at are kept in a list, not in calls within calls: so deeds may be as deep as they like.
What is called bodies here is a list of the marks of each rule's body, or of what is to stand in their stead.
"""

from shelfwork.forms import parts_of
from shelfwork.names import SHELVES


def marks_of_itself(bodies, deed):
    if deed[0] in ("read", "write", "do"):
        return [(deed[0], deed[1])]
    if deed[0] in ("say", "ask"):
        return [(deed[0],)]
    if deed[0] == "call":
        return [mark for mark in bodies[deed[1]] if mark[0] != "do"]
    return []


def handed_that_are_done(rules, bodies, number, handed):
    names = rules[number][1]
    return tuple([part for name, part in zip(names, handed) if ("do", name) in bodies[number]])


def parts_that_count(rules, bodies, deed):
    if deed[0] == "call":
        return deed[2] + handed_that_are_done(rules, bodies, deed[1], deed[3])
    return parts_of(deed)


def with_hidden(hidden, shelf):
    return hidden if shelf in hidden else hidden + (shelf,)


def parts_with_hidden(rules, bodies, deed, hidden):
    if deed[0] == "own":
        return [(deed[2], hidden), (deed[3], with_hidden(hidden, deed[1]))]
    # A handed deed has the own shelves of where it is handed, not those of the body that does it.
    return [(part, hidden) for part in parts_that_count(rules, bodies, deed)]


def marks_by(rules, bodies, deed):
    found = {}
    waiting = [(deed, ())]
    while len(waiting) > 0:
        place = waiting.pop()
        for mark in marks_of_itself(bodies, place[0]):
            if mark[-1] not in place[1]:
                found[mark] = True
        waiting.extend(parts_with_hidden(rules, bodies, place[0], place[1]))
    return sorted(found)


def marks_of_bodies(rules):
    bodies = []
    for rule in rules:
        # A body calls only lesser rules, so those that it needs are there.
        bodies.append(marks_by(rules, bodies, rule[2]))
    return bodies


def touches(rules, deed):
    return marks_by(rules, marks_of_bodies(rules), deed)


def rule_touches(rules, number):
    return marks_of_bodies(rules)[number]


def shelves_of(marks, word):
    return [mark[1] for mark in marks if mark[0] == word]


def reads_of(rules, deed):
    return shelves_of(touches(rules, deed), "read")


def writes_of(rules, deed):
    return shelves_of(touches(rules, deed), "write")


def is_quiet(rules, deed):
    return all([mark[0] == "read" for mark in touches(rules, deed)])


def untouched(rules, deed):
    marks = touches(rules, deed)
    touched = shelves_of(marks, "read") + shelves_of(marks, "write")
    return [shelf for shelf in SHELVES if shelf not in touched]
