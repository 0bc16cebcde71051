"""A deed that is being run, from touch to touch.

The steps to come are kept in a list, not in calls within calls: so a run can rest ahead of each touch,
and deeds may be as deep as they like.
"""

from shelfwork.forms import parts_of
from shelfwork.heaps import taken_off
from shelfwork.names import SHELVES

MODULUS = 1009
LOOP_MODULUS = 4


def parts_run_first(deed):
    if deed[0] == "call":
        return deed[2]
    # What becomes of the other parts of these hangs on the worth of the first.
    if deed[0] in ("if", "loop", "let", "own"):
        return parts_of(deed)[:1]
    return parts_of(deed)


def with_known(known, name, thing):
    inner = dict(known)
    inner[name] = thing
    return inner


def do_number(doing, deed, known, worths):
    doing.bring(deed[1])


def do_name(doing, deed, known, worths):
    doing.bring(known[deed[1]])


def do_read(doing, deed, known, worths):
    if deed[1] in SHELVES:
        doing.rest_ahead_of(("read", deed[1]))
    else:
        doing.bring(known[deed[1]][0])


def do_write(doing, deed, known, worths):
    if deed[1] in SHELVES:
        doing.rest_ahead_of(("write", deed[1], worths[0]))
    else:
        known[deed[1]][0] = worths[0]
        doing.bring(worths[0])


def do_add(doing, deed, known, worths):
    doing.bring((worths[0] + worths[1]) % MODULUS)


def do_less(doing, deed, known, worths):
    doing.bring(1 if worths[0] < worths[1] else 0)


def do_then(doing, deed, known, worths):
    doing.bring(worths[1])


def do_if(doing, deed, known, worths):
    doing.begin(deed[2] if worths[0] != 0 else deed[3], known)


def do_loop(doing, deed, known, worths):
    unrolled = ("number", 0)
    for turn in range(worths[0] % LOOP_MODULUS):
        unrolled = ("then", deed[2], unrolled)
    doing.begin(unrolled, known)


def do_let(doing, deed, known, worths):
    doing.begin(deed[3], with_known(known, deed[1], worths[0]))


def do_own(doing, deed, known, worths):
    # A list of one worth: all deeds that know the shelf write on the same one.
    doing.begin(deed[3], with_known(known, deed[1], [worths[0]]))


def do_say(doing, deed, known, worths):
    doing.rest_ahead_of(("say", worths[0]))


def do_ask(doing, deed, known, worths):
    doing.rest_ahead_of(("ask",))


def do_handed(doing, deed, known, worths):
    handed = known[deed[1]]
    doing.begin(handed[0], handed[1])


def do_call(doing, deed, known, worths):
    rule = doing.rules[deed[1]]
    inner = dict(zip(rule[0], worths))
    for name, part in zip(rule[1], deed[3]):
        # What is known here goes with the handed deed: the body may know other things by like names.
        inner[name] = (part, known)
    doing.begin(rule[2], inner)


WAYS = {
    "number": do_number,
    "name": do_name,
    "read": do_read,
    "write": do_write,
    "add": do_add,
    "less": do_less,
    "then": do_then,
    "if": do_if,
    "loop": do_loop,
    "let": do_let,
    "own": do_own,
    "say": do_say,
    "ask": do_ask,
    "do": do_handed,
    "call": do_call,
}


class Doing:
    def __init__(self, rules, deed):
        self.rules = rules
        self.steps = [(False, deed, {})]
        self.worths = []
        self.touch_ahead = None

    def begin(self, deed, known):
        self.steps.append((False, deed, known))

    def bring(self, brought):
        self.worths.append(brought)

    def rest_ahead_of(self, touch):
        self.touch_ahead = touch

    def go_on(self):
        while len(self.steps) > 0 and self.touch_ahead is None:
            step = self.steps.pop()
            self.take_step(step[0], step[1], step[2])

    def take_step(self, parts_done, deed, known):
        parts = parts_run_first(deed)
        if parts_done or len(parts) == 0:
            WAYS[deed[0]](self, deed, known, taken_off(self.worths, len(parts)))
        else:
            self.steps.append((True, deed, known))
            self.steps.extend([(False, part, known) for part in reversed(parts)])

    def do_touch(self, room):
        touch = room.do(self.touch_ahead)
        self.touch_ahead = None
        self.bring(touch[-1])
        return touch

    def is_done(self):
        return len(self.steps) == 0 and self.touch_ahead is None

    def came_to(self):
        return self.worths[-1]


def one_turn(doing, room):
    doing.go_on()
    if doing.touch_ahead is not None:
        doing.do_touch(room)


def touches_to_end(doing, room):
    touches = []
    doing.go_on()
    while doing.touch_ahead is not None:
        touches.append(doing.do_touch(room))
        doing.go_on()
    return touches
