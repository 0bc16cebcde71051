"""Worths, and the texts that call names, shelves and handed deeds."""

SHELVES = ("a", "b", "c", "d")
MOST_WORTH = 1008
MOST_FIGURES = 3


def is_whole(thing):
    return isinstance(thing, int) and not isinstance(thing, bool)


def is_worth(thing):
    return is_whole(thing) and 0 <= thing <= MOST_WORTH


def is_figures(text):
    # isdigit would take figures of other scripts, too
    return all([sign in "0123456789" for sign in text])


def is_lettered(thing, letters):
    if not isinstance(thing, str) or not 1 <= len(thing) <= 1 + MOST_FIGURES:
        return False
    return thing[0] in letters and is_figures(thing[1:])


def is_name(thing):
    return is_lettered(thing, "xyz")


def is_own_shelf(thing):
    return is_lettered(thing, "pq")


def is_handed_name(thing):
    return is_lettered(thing, "fg")
