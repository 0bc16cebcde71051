"""Deeds written as texts, and read from them."""

from shelfwork.deeds import is_deed
from shelfwork.errors import NoText
from shelfwork.names import is_figures

# As many as the greatest worth has: Python's own reading of figures refuses very long ones.
MOST_FIGURES = 4


def words_and_parts(deed):
    if deed[0] == "call":
        tuples = ["["] + list(deed[2]) + ["]", "["] + list(deed[3]) + ["]"]
        return ["(", deed[0], deed[1]] + tuples + [")"]
    return ["("] + list(deed) + [")"]


def written(deed):
    words = []
    waiting = [deed]
    while len(waiting) > 0:
        thing = waiting.pop()
        if isinstance(thing, tuple):
            waiting.extend(list(reversed(words_and_parts(thing))))
        else:
            words.append(str(thing))
    return " ".join(words)


def meant(word):
    if 1 <= len(word) <= MOST_FIGURES and is_figures(word):
        return int(word)
    return word


def thing_of(words):
    rows = [[]]
    for word in words:
        if word in ("(", "["):
            rows.append([])
        elif word not in (")", "]"):
            rows[-1].append(meant(word))
        elif len(rows) > 1:
            row = rows.pop()
            rows[-1].append(tuple(row))
        else:
            raise NoText("a bracket closes that none opens")
    if len(rows) != 1 or len(rows[0]) != 1:
        raise NoText("it is not one thing in brackets")
    return rows[0][0]


def read(rules, text):
    # The brackets, blanks and figures need no look of their own: the deed must be written just so.
    thing = thing_of(text.split(" "))
    if not is_deed(rules, thing) or written(thing) != text:
        raise NoText("it is not the writing of a deed")
    return thing
