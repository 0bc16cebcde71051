"""Deeds side by side: by what they clash, in which layers they may stand, and in which orders they may be run."""

from shelfwork.running import run_all
from shelfwork.touches import touches


def clashes_with(mark, others):
    if mark[0] == "write":
        return ("read", mark[1]) in others or mark in others
    if mark[0] == "read":
        return ("write", mark[1]) in others
    return mark[0] in ("say", "ask") and mark in others


def clash_of_marks(one, other):
    # The last of a mark is its shelf, or the word say or ask.
    return sorted(set([mark[-1] for mark in one if clashes_with(mark, other)]))


def clash(rules, one, other):
    return clash_of_marks(touches(rules, one), touches(rules, other))


def may_go(rules, one, other):
    return len(clash(rules, one, other)) == 0


def clashing(rules, deeds):
    marks = [touches(rules, deed) for deed in deeds]
    pairs = []
    for other in range(len(marks)):
        pairs.extend([(one, other) for one in range(other) if len(clash_of_marks(marks[one], marks[other])) > 0])
    return sorted(pairs)


def all_may_go(rules, deeds):
    return len(clashing(rules, deeds)) == 0


def layer_numbers(pairs, count):
    numbers = [0 for deed in range(count)]
    # The pairs rise: all that puts a deed further behind comes ahead of those that are to stand behind it.
    for pair in pairs:
        numbers[pair[1]] = max(numbers[pair[1]], numbers[pair[0]] + 1)
    return numbers


def layers(rules, deeds):
    numbers = layer_numbers(clashing(rules, deeds), len(deeds))
    rows = [[] for layer in range(max(numbers, default=-1) + 1)]
    for deed, number in enumerate(numbers):
        rows[number].append(deed)
    return rows


def is_order(rules, deeds, order):
    if sorted(order) != list(range(len(deeds))):
        return False
    places = dict([(number, place) for place, number in enumerate(order)])
    return all([places[pair[0]] < places[pair[1]] for pair in clashing(rules, deeds)])


def run_in(rules, deeds, order, store, asked):
    told = run_all(rules, [deeds[number] for number in order], store, asked)
    worths = dict(zip(order, told[0]))
    return ([worths[number] for number in range(len(deeds))], told[1], told[2], told[3])


def order_matters(rules, one, other, store, asked):
    return run_all(rules, [one, other], store, asked) != run_in(rules, [one, other], [1, 0], store, asked)


def goes_twice(rules, deed):
    marks = touches(rules, deed)
    if ("say",) in marks or ("ask",) in marks:
        return False
    return not any([mark[0] == "write" and ("read", mark[1]) in marks for mark in marks])
