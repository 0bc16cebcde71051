"""Deeds run: alone, one behind the other, or touch by touch in turns."""

from shelfwork.doings import Doing, one_turn, touches_to_end
from shelfwork.rooms import Room


def run(rules, deed, store, asked):
    told = run_all(rules, [deed], store, asked)
    return (told[0][0], told[1], told[2], told[3])


def trace(rules, deed, store, asked):
    return touches_to_end(Doing(rules, deed), Room(store, asked))


def run_all(rules, deeds, store, asked):
    return run_by(rules, deeds, store, asked, [])


def run_by(rules, deeds, store, asked, turns):
    room = Room(store, asked)
    doings = [Doing(rules, deed) for deed in deeds]
    for number in turns:
        # A turn of a deed that is not there is no fault: nothing goes on.
        if 0 <= number < len(doings):
            one_turn(doings[number], room)
    for doing in doings:
        touches_to_end(doing, room)
    worths = [doing.came_to() for doing in doings]
    return (worths, room.store(), room.said(), room.asks)
