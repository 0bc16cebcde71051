"""The outer form of the fifteen deeds, the deeds that are parts of one, and deeds made anew of parts."""

# Behind each first word: the tuple's length, and where the deeds in it (or the tuples of them) begin.
FORMS = {
    "number": (2, 2),
    "name": (2, 2),
    "read": (2, 2),
    "write": (3, 2),
    "add": (3, 1),
    "less": (3, 1),
    "then": (3, 1),
    "if": (4, 1),
    "loop": (3, 1),
    "let": (4, 2),
    "own": (4, 2),
    "say": (2, 1),
    "ask": (1, 1),
    "do": (2, 2),
    "call": (4, 2),
}


def has_form(thing):
    if not isinstance(thing, tuple) or len(thing) == 0:
        return False
    if not isinstance(thing[0], str) or thing[0] not in FORMS:
        return False
    return len(thing) == FORMS[thing[0]][0]


def parts_of(deed):
    if deed[0] == "call":
        return deed[2] + deed[3]
    return deed[FORMS[deed[0]][1]:]


def head_of(deed):
    return deed[:FORMS[deed[0]][1]]


def with_parts(deed, parts):
    if deed[0] == "call":
        count = len(deed[2])
        return head_of(deed) + (tuple(parts[:count]), tuple(parts[count:]))
    return head_of(deed) + tuple(parts)


def are_same(one, other):
    # Python's own comparison goes only so deep. Those with the same head have as many parts.
    waiting = [(one, other)]
    while len(waiting) > 0:
        pair = waiting.pop()
        if head_of(pair[0]) != head_of(pair[1]):
            return False
        waiting.extend(list(zip(parts_of(pair[0]), parts_of(pair[1]))))
    return True
