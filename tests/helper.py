"""What the tests share: sample deeds, chance deeds from a set seed, and a second, plainer way to run deeds."""

import random

ONE = ("number", 1)
TWO = ("number", 2)

# Every mark of a kind without handed deeds, rising.
ALL_MARKS = [("ask",), ("read", "a"), ("read", "b"), ("read", "c"), ("read", "d"), ("say",),
             ("write", "a"), ("write", "b"), ("write", "c"), ("write", "d")]

# Two rules for samples: one without names and handed deeds, one with one of each.
RULES = (
    ((), (), ("number", 5)),
    (("x",), ("f",), ("then", ("do", "f"), ("name", "x"))),
)

# One of each of the fifteen tuples; they may stand where x, p and f are known, by RULES.
FIFTEEN = {
    "number": ("number", 7),
    "name": ("name", "x"),
    "read": ("read", "p"),
    "write": ("write", "b", ONE),
    "add": ("add", ONE, TWO),
    "less": ("less", ONE, TWO),
    "then": ("then", ONE, TWO),
    "if": ("if", ONE, TWO, ONE),
    "loop": ("loop", ONE, TWO),
    "let": ("let", "y", ONE, ("name", "y")),
    "own": ("own", "q", ONE, ("read", "q")),
    "say": ("say", ONE),
    "ask": ("ask",),
    "do": ("do", "f"),
    "call": ("call", 1, (ONE,), (TWO,)),
}


def rules_with(body, names=("x",), handed=("f",)):
    """RULES, and behind them a rule with this body."""
    return RULES + ((names, handed, body),)


def chain(size):
    """A deed of just so many deeds, each in the one before."""
    deed = ONE
    for _ in range(size - 1):
        deed = ("say", deed)
    return deed


def comb(size):
    """A deed of just so many deeds, an odd number, with two parts each."""
    deed = ONE
    for _ in range((size - 1) // 2):
        deed = ("add", ONE, deed)
    return deed


# ---- deeds in fewer signs


def number(worth):
    return ("number", worth)


def name(text):
    return ("name", text)


def read(shelf):
    return ("read", shelf)


def write(shelf, worth):
    return ("write", shelf, number(worth))


def say(worth):
    return ("say", number(worth))


def row(*deeds):
    """The deeds one behind the other, as one deed."""
    whole = deeds[-1]
    for deed in reversed(deeds[:-1]):
        whole = ("then", deed, whole)
    return whole


def put(shelf, deed, worth):
    """Adds a worth to what is on a shelf, behind a deed."""
    return ("then", deed, ("write", shelf, ("add", read(shelf), number(worth))))


# ---- a second way to run deeds: generators that hand out each touch, and are sent its worth


def steps(rules, deed, known):
    word = deed[0]
    if word == "number":
        return deed[1]
    if word == "name":
        return known[deed[1]]
    if word == "read":
        if deed[1] in known:
            return known[deed[1]]["on it"]
        return (yield ("read", deed[1]))
    if word == "write":
        worth = yield from steps(rules, deed[2], known)
        if deed[1] in known:
            known[deed[1]]["on it"] = worth
            return worth
        return (yield ("write", deed[1], worth))
    if word in ("add", "less", "then"):
        one = yield from steps(rules, deed[1], known)
        other = yield from steps(rules, deed[2], known)
        return {"add": (one + other) % 1009, "less": int(one < other), "then": other}[word]
    if word == "if":
        test = yield from steps(rules, deed[1], known)
        return (yield from steps(rules, deed[2 if test else 3], known))
    if word == "loop":
        often = yield from steps(rules, deed[1], known)
        for _ in range(often % 4):
            yield from steps(rules, deed[2], known)
        return 0
    if word in ("let", "own"):
        worth = yield from steps(rules, deed[2], known)
        given = worth if word == "let" else {"on it": worth}
        return (yield from steps(rules, deed[3], {**known, deed[1]: given}))
    if word == "say":
        worth = yield from steps(rules, deed[1], known)
        return (yield ("say", worth))
    if word == "ask":
        return (yield ("ask",))
    if word == "do":
        return (yield from known[deed[1]]())
    names, handed, body = rules[deed[1]]
    inner = {}
    for name, part in zip(names, deed[2]):
        inner[name] = yield from steps(rules, part, known)
    for name, part in zip(handed, deed[3]):
        inner[name] = lambda part=part: steps(rules, part, known)
    return (yield from steps(rules, body, inner))


class PlainRun:
    """Deeds run in turns by the generators above."""

    def __init__(self, rules, deeds, store, asked):
        self.ways = [steps(rules, deed, {}) for deed in deeds]
        self.brought = [None for _ in deeds]
        self.worths = {}
        self.store = dict(zip("abcd", store))
        self.asked = asked
        self.said = []
        self.asks = 0
        self.touches = []

    def turn(self, number):
        if number in self.worths:
            return
        try:
            touch = self.ways[number].send(self.brought[number])
        except StopIteration as end:
            self.worths[number] = end.value
            return
        if touch[0] == "read":
            touch += (self.store[touch[1]],)
        elif touch[0] == "write":
            self.store[touch[1]] = touch[2]
        elif touch[0] == "say":
            self.said.append(touch[1])
        else:
            touch += ((self.asked + [0] * (self.asks + 1))[self.asks],)
            self.asks += 1
        self.touches.append(touch)
        self.brought[number] = touch[-1]

    def finish(self):
        for number in range(len(self.ways)):
            while number not in self.worths:
                self.turn(number)
        worths = [self.worths[number] for number in range(len(self.ways))]
        return (worths, tuple(self.store[shelf] for shelf in "abcd"), self.said, self.asks)


# ---- a second way to tell marks: from the inmost parts out, as sets, each do's mark put in for at its call


def plain_marks(rules, deed, bodies=None):
    """The marks of a deed; bodies may tell the marks of the rules' bodies otherwise than they are."""
    word = deed[0]
    if word == "call":
        names, handed, body = rules[deed[1]]
        given = dict(zip(handed, deed[3]))
        marks = set()
        for part in deed[2]:
            marks |= plain_marks(rules, part, bodies)
        for mark in plain_marks(rules, body) if bodies is None else bodies[deed[1]]:
            marks |= plain_marks(rules, given[mark[1]], bodies) if mark[0] == "do" else {mark}
        return marks
    parts = [plain_marks(rules, part, bodies) for part in deed if isinstance(part, tuple)]
    if word == "own":
        parts[1] -= {("read", deed[1]), ("write", deed[1])}
    own = {"read": [deed[:2]], "write": [deed[:2]], "do": [deed[:2]], "say": [deed[:1]], "ask": [deed[:1]]}
    return set(own.get(word, [])).union(*parts)


# ---- chance deeds


class Chance:
    def __init__(self, seed):
        self.chance = random.Random(seed)

    def name(self, letters):
        return self.chance.choice(letters) + self.chance.choice(["", "", "0", "12", "999"])

    def worth(self):
        return self.chance.choice([0, 0, 1, 2, 3, 5, 1007, 1008])

    def pick(self, known, letters):
        return [name for name in known if name[0] in letters]

    def leaf(self, known):
        choices = [("number", self.worth()), ("read", self.chance.choice("abcd")), ("ask",)]
        choices += [("name", name) for name in self.pick(known, "xyz")] * 2
        choices += [("read", name) for name in self.pick(known, "pq")] * 2
        choices += [("do", name) for name in self.pick(known, "fg")] * 3
        return self.chance.choice(choices)

    def deed(self, rules, known, depth):
        if depth == 0:
            return self.leaf(known)
        words = ["write", "add", "less", "then", "if", "loop", "let", "own", "say", "leaf"]
        word = self.chance.choice(words + ["call"] * 4 if rules else words)
        one = self.deed(rules, known, depth - 1)
        if word == "leaf":
            return self.leaf(known)
        if word == "say":
            return ("say", one)
        if word == "write":
            return ("write", self.chance.choice(list("abcd") + self.pick(known, "pq") * 2), one)
        if word in ("let", "own"):
            name = self.name("xyz" if word == "let" else "pq")
            return (word, name, one, self.deed(rules, known + (name,), depth - 1))
        if word == "call":
            number = self.chance.randrange(len(rules))
            worths = tuple(self.deed(rules, known, depth - 2 if depth > 1 else 0) for _ in rules[number][0])
            handed = tuple(self.deed(rules, known, depth - 1) for _ in rules[number][1])
            return ("call", number, worths, handed)
        other = self.deed(rules, known, depth - 1)
        if word == "if":
            return ("if", one, other, self.deed(rules, known, depth - 1))
        return (word, one, other)

    def rules(self):
        rules = ()
        for _ in range(self.chance.randrange(5)):
            names = self.chance.sample(["x", "y", "x0", "z999"], self.chance.randrange(3))
            handed = self.chance.sample(["f", "g", "f0"], self.chance.randrange(3))
            body = self.deed(rules, tuple(names + handed), 3)
            rules += ((tuple(names), tuple(handed), body),)
        return rules

    def store(self):
        return tuple(self.worth() for _ in range(4))

    def asked(self):
        return [self.worth() for _ in range(self.chance.randrange(5))]

    def turns(self, count):
        return [self.chance.randrange(count) for _ in range(self.chance.randrange(30))]

    def some(self, things):
        return self.chance.sample(things, self.chance.randrange(len(things) + 1))

    def kind(self, handed):
        return sorted(self.some(ALL_MARKS + [("do", each) for each in handed]))

    def kinds(self, rules):
        return [self.kind(rule[1]) for rule in rules]

    def deeds_apart(self, rules, count, may_go):
        """Up to so many deeds, each of which may go with each other one."""
        deeds = []
        for _ in range(60):
            deed = self.deed(rules, (), self.chance.choice([1, 2, 2, 3]))
            if len(deeds) < count and deed[0] != "number" and all(may_go(rules, deed, other) for other in deeds):
                deeds.append(deed)
        return deeds

    def shuffled(self, things):
        return self.chance.sample(things, len(things))

    def thing(self, depth):
        """Any thing: mostly marks and parts of such, and lists and tuples of them."""
        plain = [0, 1, -3, True, False, None, "", "a", "b", "p", "say", "ask", "read", "write", "do", "f", ("say",),
                 ("ask",), ("read", "a"), ("write", "d"), ("do", "f"), ["read", "a"], ("read", "p"), [], ()]
        if depth == 0 or self.chance.random() < 0.3:
            return self.chance.choice(plain)
        parts = [self.thing(depth - 1) for _ in range(self.chance.randrange(4))]
        return self.chance.choice([list, tuple])(parts)
