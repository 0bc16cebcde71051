"""Kinds: what deeds and rules are let to touch, told beforehand."""

from shelfwork.errors import BadKinds
from shelfwork.names import SHELVES
from shelfwork.touches import marks_by, marks_of_bodies, touches


def marks_let(handed):
    reads = [("read", shelf) for shelf in SHELVES]
    writes = [("write", shelf) for shelf in SHELVES]
    return reads + writes + [("say",), ("ask",)] + [("do", name) for name in handed]


def is_kind(thing, handed):
    if not isinstance(thing, list):
        return False
    let = marks_let(handed)
    # Only marks are put in order: other things may not be of one order, nor may they be kept in a set.
    return all([mark in let for mark in thing]) and thing == sorted(set(thing))


def lacking(marks, kind):
    return [mark for mark in marks if mark not in kind]


def is_less(one, other):
    return len(lacking(one, other)) == 0


def joined(one, other):
    return sorted(set(one) | set(other))


def both_of(one, other):
    return sorted(set(one) & set(other))


def too_much(rules, deed, kind):
    return lacking(touches(rules, deed), kind)


def fits(rules, deed, kind):
    return len(too_much(rules, deed, kind)) == 0


def least_kinds(rules):
    return marks_of_bodies(rules)


def refuse_bad_kinds(rules, kinds):
    if len(kinds) != len(rules):
        raise BadKinds("there are not as many kinds as rules")
    for rule, kind in zip(rules, kinds):
        if not is_kind(kind, rule[1]):
            raise BadKinds("one is no kind of its rule's handed deeds")


def first_fault(rules, kinds):
    refuse_bad_kinds(rules, kinds)
    for number, marks in enumerate(least_kinds(rules)):
        lacks = lacking(marks, kinds[number])
        if len(lacks) > 0:
            return (number, lacks)
    return None


def told_touches(rules, kinds, deed):
    refuse_bad_kinds(rules, kinds)
    return marks_by(rules, kinds, deed)
