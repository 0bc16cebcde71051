"""The outer form of the fifteen deeds, and the deeds that are parts of one."""

# Behind each first word: the tuple's length, and where the deeds in it begin.
FORMS = {
    "number": (2, 2),
    "name": (2, 2),
    "read": (2, 2),
    "write": (3, 2),
    "add": (3, 1),
    "less": (3, 1),
    "then": (3, 1),
    "if": (4, 1),
    "loop": (3, 1),
    "let": (4, 2),
    "own": (4, 2),
    "say": (2, 1),
    "ask": (1, 1),
    "do": (2, 2),
    "call": (4, 4),
}


def has_form(thing):
    if not isinstance(thing, tuple) or len(thing) == 0:
        return False
    if not isinstance(thing[0], str) or thing[0] not in FORMS:
        return False
    return len(thing) == FORMS[thing[0]][0]


def parts_of(deed):
    if deed[0] == "call":
        return deed[2] + deed[3]
    return deed[FORMS[deed[0]][1]:]
