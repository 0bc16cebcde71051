"""What is a deed, what are rules, and how many deeds a deed has."""

from shelfwork.forms import has_form, parts_of
from shelfwork.names import SHELVES, is_handed_name, is_name, is_own_shelf, is_whole, is_worth

MOST_RULES = 4
MOST_DEEDS = 60
MOST_NAMES = 2


def is_shelf(thing, known):
    return thing in SHELVES or (is_own_shelf(thing) and thing in known)


def is_call(rules, deed):
    number = deed[1]
    if not is_whole(number) or not 0 <= number < len(rules):
        return False
    if not isinstance(deed[2], tuple) or not isinstance(deed[3], tuple):
        return False
    rule = rules[number]
    return len(deed[2]) == len(rule[0]) and len(deed[3]) == len(rule[1])


def is_deed_outside(rules, thing, known):
    # The parts that are deeds are looked at by themselves, so that no depth is too great.
    if not has_form(thing):
        return False
    word = thing[0]
    if word == "number":
        return is_worth(thing[1])
    if word == "name":
        return is_name(thing[1]) and thing[1] in known
    if word == "do":
        return is_handed_name(thing[1]) and thing[1] in known
    if word in ("read", "write"):
        return is_shelf(thing[1], known)
    if word == "let":
        return is_name(thing[1])
    if word == "own":
        return is_own_shelf(thing[1])
    if word == "call":
        return is_call(rules, thing)
    return True


def parts_with_known(deed, known):
    if deed[0] in ("let", "own"):
        return [(deed[2], known), (deed[3], known + (deed[1],))]
    return [(part, known) for part in parts_of(deed)]


def is_deed_where(rules, thing, known):
    count = 0
    waiting = [(thing, known)]
    while len(waiting) > 0:
        place = waiting.pop()
        count += 1
        if count > MOST_DEEDS or not is_deed_outside(rules, place[0], place[1]):
            return False
        waiting.extend(parts_with_known(place[0], place[1]))
    return True


def are_unlike(things):
    # The members are texts by then: others may not be kept in a set.
    return len(set(things)) == len(things)


def is_head(names, handed):
    if not isinstance(names, tuple) or not isinstance(handed, tuple):
        return False
    if len(names) > MOST_NAMES or len(handed) > MOST_NAMES:
        return False
    if not all([is_name(name) for name in names]) or not all([is_handed_name(name) for name in handed]):
        return False
    return are_unlike(names) and are_unlike(handed)


def is_rule(lesser, thing):
    if not isinstance(thing, tuple) or len(thing) != 3:
        return False
    return is_head(thing[0], thing[1]) and is_deed_where(lesser, thing[2], thing[0] + thing[1])


def is_rules(thing):
    if not isinstance(thing, tuple) or len(thing) > MOST_RULES:
        return False
    for number, rule in enumerate(thing):
        if not is_rule(thing[:number], rule):
            return False
    return True


def is_deed(rules, thing):
    return is_deed_where(rules, thing, ())


def size_of(deed):
    count = 0
    waiting = [deed]
    while len(waiting) > 0:
        count += 1
        waiting.extend(parts_of(waiting.pop()))
    return count
