"""Rules put in for their calls.

A handed deed is put in ahead of the body that does it, by what is known where it is handed. So in the body nothing
may be called like what is known there: its names and own shelves get other names where they need to.
The deeds to look at are kept in a list, not in calls within calls: so deeds may be as deep as they like.
"""

from shelfwork.forms import parts_of, with_parts
from shelfwork.heaps import taken_off

LETTERS = {"x": "xyz", "y": "xyz", "z": "xyz", "p": "pq", "q": "pq"}


def free_name(name, taken):
    letters = LETTERS[name[0]]
    count = 0
    free = name
    while free in taken:
        free = letters[count % len(letters)] + str(count // len(letters))
        count += 1
    return free


# What is known at a place: how its names and own shelves are called in what is told, and its handed deeds, put in.
# Taken are all names that mean something here, or may stand in a handed deed.
class Known:
    def __init__(self, names, handed, taken):
        self.names = names
        self.handed = handed
        self.taken = taken

    def called(self, name):
        # The four shelves are called as ever.
        return self.names.get(name, name)

    def with_name(self, name):
        names = dict(self.names)
        taken = dict(self.taken)
        if name in names:
            # The name made known again hides this one, and no handed deed has it.
            taken.pop(names[name])
        names[name] = free_name(name, taken)
        taken[names[name]] = True
        return Known(names, self.handed, taken)


def known_in_rule(rule, handed, known):
    inner = Known({}, dict(zip(rule[1], handed)), known.taken)
    for name in rule[0]:
        inner = inner.with_name(name)
    return inner


def renamed(deed, known):
    if deed[0] in ("name", "read", "write", "let", "own"):
        return (deed[0], known.called(deed[1])) + deed[2:]
    return deed


class Putting:
    def __init__(self, rules, deed):
        self.rules = rules
        self.steps = [("look", deed, Known({}, {}, {}))]
        self.made = []

    def look_at_all(self, parts, known):
        self.steps.extend([("look", part, known) for part in reversed(parts)])

    def look(self, deed, known):
        if deed[0] == "do":
            self.made.append(known.handed[deed[1]])
        elif deed[0] == "call":
            self.steps.append(("enter", deed, known))
            self.look_at_all(parts_of(deed), known)
        elif deed[0] in ("let", "own"):
            inner = known.with_name(deed[1])
            self.steps.append(("make", renamed(deed, inner), None))
            self.steps.append(("look", deed[3], inner))
            self.steps.append(("look", deed[2], known))
        else:
            self.steps.append(("make", renamed(deed, known), None))
            self.look_at_all(parts_of(deed), known)

    def make(self, deed):
        parts = taken_off(self.made, len(parts_of(deed)))
        self.made.append(with_parts(deed, parts))

    def enter(self, deed, known):
        rule = self.rules[deed[1]]
        inner = known_in_rule(rule, taken_off(self.made, len(deed[3])), known)
        # The worths stay on the heap: there each let finds its own, under what stands in its body.
        for name, part in zip(rule[0], deed[2]):
            self.steps.append(("make", ("let", inner.called(name), part, rule[2]), None))
        self.steps.append(("look", rule[2], inner))

    def go_on(self):
        while len(self.steps) > 0:
            step = self.steps.pop()
            if step[0] == "look":
                self.look(step[1], step[2])
            elif step[0] == "make":
                self.make(step[1])
            else:
                self.enter(step[1], step[2])


def put_in(rules, deed):
    putting = Putting(rules, deed)
    putting.go_on()
    return putting.made[0]
