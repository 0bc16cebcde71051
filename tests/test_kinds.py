import copy
import itertools
import unittest

from shelfwork.deeds import is_rules
from shelfwork.errors import BadKinds, WorkError
from shelfwork.kinds import (both_of, first_fault, fits, is_kind, is_less, joined, least_kinds, told_touches,
                             too_much)
from shelfwork.running import trace
from shelfwork.touches import rule_touches, touches
from helper import ALL_MARKS, ONE, Chance, chain, plain_marks, read, row, say, write

ASK = ("ask",)
SAY = ("say",)

# One rule that does what is handed, one that does not, one that calls both.
RULES = (
    (("x",), ("f",), ("write", "a", ("then", ("do", "f"), ("name", "x")))),
    ((), ("f", "g"), ("say", ("do", "g"))),
    ((), ("g",), ("then", ("call", 0, (("read", "b"),), (("do", "g"),)), ("call", 1, (), (("ask",), ("number", 1))))),
)
LEAST = [
    [("do", "f"), ("write", "a")],
    [("do", "g"), ("say",)],
    [("do", "g"), ("read", "b"), ("say",), ("write", "a")],
]


def greatest(handed):
    return sorted(ALL_MARKS + [("do", each) for each in handed])


class IsKind(unittest.TestCase):
    def holds(self, thing, handed=()):
        self.assertIs(is_kind(thing, handed), True, thing)

    def fails(self, thing, handed=()):
        self.assertIs(is_kind(thing, handed), False, thing)

    def test_none_each_and_all_of_the_marks(self):
        for handed in ((), ("f",), ("g", "f"), ("f12", "g999")):
            self.holds([], handed)
            self.holds(greatest(handed), handed)
            for mark in greatest(handed):
                self.holds([mark], handed)

    def test_any_that_rise(self):
        for size in (2, 3):
            for marks in itertools.combinations(greatest(("f",)), size):
                self.holds(list(marks), ("f",))

    def test_out_of_order(self):
        for marks in itertools.combinations(greatest(("f",)), 2):
            self.fails(list(reversed(marks)), ("f",))
        self.fails(list(reversed(ALL_MARKS)))
        self.fails([("do", "f"), ("do", "g"), ("ask",)], ("f", "g"))
        self.fails([("do", "g"), ("do", "f")], ("g", "f"))
        self.fails([("do", "f2"), ("do", "f12")], ("f2", "f12"))

    def test_a_mark_twice(self):
        for mark in greatest(("f",)):
            self.fails([mark, mark], ("f",))
            self.fails(sorted(greatest(("f",)) + [mark]), ("f",))

    def test_a_mark_of_an_own_shelf(self):
        for shelf in ("p", "q", "p0", "q999"):
            self.fails([("read", shelf)])
            self.fails([("write", shelf)])
            self.fails([("read", "a"), ("read", shelf)], ("f",))

    def test_a_mark_of_a_handed_deed(self):
        self.holds([("do", "f")], ("f",))
        self.holds([("do", "f")], ("g", "f"))
        self.holds([("do", "g7")], ("g7",))
        self.fails([("do", "f")])
        self.fails([("do", "g")], ("f",))
        self.fails([("do", "f0")], ("f",))
        self.fails([("do", "f")], ("f0", "g"))
        self.fails([("do", "f"), ("do", "g")], ("f",))
        self.fails([("do", "fg")], ("f", "g"))
        self.fails([("do", ("f", "g"))], ("f", "g"))

    def test_a_mark_of_a_shelf_that_there_is_none(self):
        for shelf in ("e", "A", "a1", "ab", "abcd", "", " ", "x", "f", "say", None, 0, 1, True, ["a"], ("a",), [], ()):
            self.fails([("read", shelf)], ("f",))
            self.fails([("write", shelf)], ("f",))

    def test_other_words(self):
        for word in ("reads", "Read", "", "number", "name", "call", "own", "then", "let", None, 0, True, [], ()):
            self.fails([(word,)], ("f",))
            self.fails([(word, "a")], ("f",))
            self.fails([(word, "f")], ("f",))

    def test_a_part_missing_or_one_too_many(self):
        for mark in greatest(("f",)):
            self.fails([mark[:-1]], ("f",))
            for more in ("a", "f", None, 1, mark, ()):
                self.fails([mark + (more,)], ("f",))
        self.fails([("say", "a")])
        self.fails([("ask", "f")], ("f",))
        self.fails([()])

    def test_a_tuple_for_the_list(self):
        self.fails(())
        self.fails(tuple(ALL_MARKS))
        for mark in ALL_MARKS:
            self.fails((mark,))
            self.fails(mark)

    def test_a_list_for_a_mark(self):
        for mark in greatest(("f",)):
            self.fails([list(mark)], ("f",))
            self.fails([[mark]], ("f",))
            self.fails([(mark,)], ("f",))
        self.fails([[]])

    def test_a_text_for_a_mark_or_for_the_list(self):
        for word in ("read", "say", "ask", "a", "", "f"):
            self.fails(word, ("f",))
            self.fails([word], ("f",))

    def test_one_wrong_among_right_ones(self):
        for at in range(len(ALL_MARKS)):
            for wrong in (None, 1, True, "say", [], (), ["say"], ("read", "p"), ("do", "f"), ("read", ["a"])):
                self.fails(ALL_MARKS[:at] + [wrong] + ALL_MARKS[at:])
                self.fails(ALL_MARKS[:at] + [wrong] + ALL_MARKS[at + 1:])

    def test_any_thing_is_answered(self):
        plain = [0, 1, -1, 10 ** 30, True, False, None, "", "say", "read a", [], (), [[]], [()], ((),), [None, 1, "a"]]
        for thing in plain:
            self.assertIs(is_kind(thing, ("f",)), thing == [], thing)
            for _ in range(12):
                thing = [thing]
                self.fails(thing, ("f",))
                thing = (thing, thing)
                self.fails(thing, ("f",))
                self.fails([thing], ("f",))

    def test_chance_things(self):
        told = {True: 0, False: 0}
        for seed in range(4000):
            thing = Chance(seed).thing(seed % 11)
            answer = is_kind(thing, ("f",))
            self.assertIs(type(answer), bool)
            right = isinstance(thing, list) and any(thing == list(marks) for size in range(len(thing) + 1)
                                                    for marks in itertools.combinations(greatest(("f",)), size)
                                                    if size == len(thing))
            self.assertEqual(answer, right, thing)
            told[answer] += 1
        self.assertGreater(min(told.values()), 50)


class LessJoinedBoth(unittest.TestCase):
    ONE = [("ask",), ("do", "f"), ("read", "b")]
    OTHER = [("do", "f"), ("read", "a"), ("read", "b"), ("write", "b")]

    def test_is_less(self):
        for one, other, less in (([], [], True), ([], ALL_MARKS, True), (ALL_MARKS, [], False),
                                 (ALL_MARKS, ALL_MARKS, True), (self.ONE, self.OTHER, False),
                                 (self.OTHER, self.ONE, False), (self.ONE, self.ONE, True),
                                 ([("say",)], [("ask",)], False), ([("say",)], [("ask",), ("say",)], True),
                                 ([("ask",), ("say",)], [("say",)], False), ([("read", "a")], [("write", "a")], False),
                                 ([("do", "f")], [("do", "g")], False)):
            self.assertIs(is_less(one, other), less, (one, other))

    def test_joined(self):
        all_of_both = [("ask",), ("do", "f"), ("read", "a"), ("read", "b"), ("write", "b")]
        for one, other, marks in (([], [], []), ([], ALL_MARKS, ALL_MARKS), (ALL_MARKS, ALL_MARKS, ALL_MARKS),
                                  (self.ONE, self.OTHER, all_of_both), (ALL_MARKS[:5], ALL_MARKS[3:], ALL_MARKS),
                                  ([("say",)], [("ask",)], [("ask",), ("say",)])):
            self.assertEqual(joined(one, other), marks)
            self.assertEqual(joined(other, one), marks)

    def test_both_of(self):
        for one, other, marks in (([], [], []), ([], ALL_MARKS, []), (ALL_MARKS, ALL_MARKS, ALL_MARKS),
                                  (self.ONE, self.OTHER, [("do", "f"), ("read", "b")]),
                                  (ALL_MARKS[:7], ALL_MARKS[3:], ALL_MARKS[3:7]), ([("say",)], [("ask",)], [])):
            self.assertEqual(both_of(one, other), marks)
            self.assertEqual(both_of(other, one), marks)

    def test_chance_kinds(self):
        for seed in range(300):
            chance = Chance(seed)
            one, other = chance.kind(("f", "g")), chance.kind(("f", "g"))
            more, less = joined(one, other), both_of(one, other)
            self.assertEqual(more, [mark for mark in greatest(("f", "g")) if mark in one or mark in other])
            self.assertEqual(less, [mark for mark in greatest(("f", "g")) if mark in one and mark in other])
            for kind in (one, other):
                self.assertIs(is_less(less, kind), True)
                self.assertIs(is_less(kind, more), True)
                self.assertIs(is_less(more, kind), more == kind)
                self.assertIs(is_less(kind, less), less == kind)
            self.assertIs(is_kind(more, ("f", "g")) and is_kind(less, ("f", "g")), True)


class FitsAndTooMuch(unittest.TestCase):
    def told(self, deed, kind, lacks, rules=()):
        self.assertEqual(too_much(rules, deed, kind), lacks)
        self.assertIs(fits(rules, deed, kind), lacks == [])

    def test_a_deed_that_keeps_to_a_kind(self):
        self.told(ONE, [], [])
        self.told(ONE, ALL_MARKS, [])
        self.told(("write", "a", read("b")), [("read", "b"), ("write", "a")], [])
        self.told(("write", "a", read("b")), [("ask",), ("do", "f"), ("read", "b"), ("say",), ("write", "a")], [])

    def test_a_deed_that_does_not(self):
        deed = row(write("b", 1), say(1), write("a", 1), read("d"), ASK, write("b", 2))
        marks = [ASK, ("read", "d"), SAY, ("write", "a"), ("write", "b")]
        self.told(deed, marks, [])
        self.told(deed, [], marks)
        for mark in marks:
            self.told(deed, [each for each in ALL_MARKS if each != mark], [mark])
            self.told(deed, [mark], [each for each in marks if each != mark])
        self.told(read("a"), [("write", "a")], [("read", "a")])
        self.told(read("a"), [("read", "b")], [("read", "a")])

    def test_by_rules(self):
        deed = ("call", 2, (), (ASK,))
        self.told(deed, [ASK, ("read", "b"), SAY, ("write", "a")], [], RULES)
        self.told(deed, [("do", "g"), ("read", "b"), ("read", "c")], [ASK, SAY, ("write", "a")], RULES)

    def test_own_shelves_are_not_asked_for(self):
        self.told(("own", "p", ONE, ("write", "p", read("p"))), [], [])

    def test_many_deeds(self):
        self.told(chain(5000), [], [SAY])
        self.told(chain(5000), [SAY], [])


class LeastKinds(unittest.TestCase):
    def test_no_rules(self):
        self.assertEqual(least_kinds(()), [])

    def test_rules_that_call_one_another(self):
        self.assertTrue(is_rules(RULES))
        self.assertEqual(least_kinds(RULES), LEAST)

    def test_they_are_the_touches_of_the_rules(self):
        for seed in range(200):
            rules = Chance(seed).rules()
            least = least_kinds(rules)
            self.assertEqual(least, [rule_touches(rules, at) for at in range(len(rules))])
            self.assertTrue(all(is_kind(kind, rule[1]) for kind, rule in zip(least, rules)), rules)
            self.assertIsNone(first_fault(rules, least))


class Bad(unittest.TestCase):
    def refused(self, kinds, rules=RULES):
        for error in (BadKinds, WorkError):
            with self.assertRaises(error):
                first_fault(rules, kinds)
            with self.assertRaises(error):
                told_touches(rules, kinds, ONE)
        with self.assertRaises(BadKinds):
            told_touches(rules, kinds, ("then", say(1), ASK))

    def test_too_few(self):
        for count in range(3):
            self.refused(LEAST[:count])

    def test_too_many(self):
        self.refused(LEAST + [[]])
        self.refused([[]], ())
        self.refused(LEAST + LEAST)

    def test_none_where_there_are_none(self):
        self.assertIsNone(first_fault((), []))
        self.assertEqual(told_touches((), [], say(1)), [SAY])

    def test_one_is_no_kind(self):
        for at in range(3):
            for wrong in (None, 0, True, "", "say", (), tuple(LEAST[at]), LEAST[at] + [LEAST[at][0]], [("read", "p")],
                          list(reversed(LEAST[at])), [["say"]], [("read",)], [("say", "a")], [None], [[]], LEAST):
                self.refused(LEAST[:at] + [wrong] + LEAST[at + 1:])

    def test_one_with_other_handed_deeds(self):
        for at, wrong in ((0, "g"), (0, "f0"), (2, "f"), (1, "g1")):
            kinds = LEAST[:at] + [[("do", wrong)]] + LEAST[at + 1:]
            self.refused(kinds)
        self.refused([[("do", "f")]], (((), (), ONE),))
        self.assertIsNone(first_fault((((), ("f",), ONE),), [[("do", "f")]]))

    def test_one_that_is_none_behind_one_with_a_fault(self):
        self.refused([[], LEAST[1], [("write", "a"), ("read", "a")]])
        self.refused([[], LEAST[1], None])

    def test_what_is_refused_changes_nothing(self):
        for kinds in (LEAST[:2], LEAST[:2] + [[("write", "a"), ("read", "a"), ("read", "a")]]):
            before = copy.deepcopy(kinds)
            self.refused(kinds)
            self.assertEqual(kinds, before)


class FirstFault(unittest.TestCase):
    def fault(self, kinds, told, rules=RULES):
        self.assertEqual(first_fault(rules, kinds), told)

    def test_none(self):
        self.fault(LEAST, None)
        self.fault([greatest(rule[1]) for rule in RULES], None)
        self.fault([greatest(RULES[0][1])] + LEAST[1:], None)
        self.assertIsNone(first_fault((), []))

    def test_at_the_first_rule(self):
        self.fault([LEAST[0][:1]] + LEAST[1:], (0, [("write", "a")]))
        self.fault([LEAST[0][1:]] + LEAST[1:], (0, [("do", "f")]))
        self.fault([LEAST[0][:1], [], []], (0, [("write", "a")]))

    def test_at_a_later_one(self):
        self.fault([LEAST[0], LEAST[1][:1], LEAST[2]], (1, [SAY]))
        self.fault([LEAST[0], LEAST[1], LEAST[2][1:]], (2, [("do", "g")]))
        self.fault([LEAST[0], [], []], (1, LEAST[1]))

    def test_several_marks(self):
        self.fault([[], [], []], (0, LEAST[0]))
        self.fault(LEAST[:2] + [[("ask",), ("read", "b")]], (2, [("do", "g"), SAY, ("write", "a")]))

    def test_it_is_a_tuple_of_a_number_and_a_list(self):
        told = first_fault(RULES, [[], [], []])
        self.assertEqual([type(told), type(told[0]), type(told[1])], [tuple, int, list])

    def test_a_rule_has_its_touches_whatever_the_kinds_of_those_it_calls(self):
        rules = (((), (), ONE), ((), (), ("call", 0, (), ())))
        self.fault([[SAY], []], None, rules)
        rules = (((), (), say(1)), ((), (), ("call", 0, (), ())))
        self.fault([[SAY], []], (1, [SAY]), rules)

    def test_chance_kinds(self):
        faults = {}
        for seed in range(300):
            chance = Chance(seed)
            rules = chance.rules()
            kinds = [joined(kind, least) if chance.chance.random() < 0.6 else kind
                     for kind, least in zip(chance.kinds(rules), least_kinds(rules))]
            told = None
            for at in reversed(range(len(rules))):
                lacks = sorted(plain_marks(rules, rules[at][2]) - set(kinds[at]))
                told = (at, lacks) if lacks else told
            self.assertEqual(first_fault(rules, kinds), told)
            faults[told and told[0]] = True
        self.assertEqual(set(faults), {None, 0, 1, 2, 3})


class ToldTouches(unittest.TestCase):
    def told(self, kinds, deed, *marks, rules=RULES):
        self.assertEqual(told_touches(rules, kinds, deed), list(marks), deed)

    CALL = ("call", 0, (("read", "c"),), (ASK,))

    def test_without_calls(self):
        kinds = [[], [], []]
        self.told(kinds, ONE)
        self.told(kinds, row(write("b", 1), say(1), ASK, read("a")), ASK, ("read", "a"), SAY, ("write", "b"))
        self.told(kinds, ("own", "p", read("a"), ("write", "p", read("p"))), ("read", "a"))

    def test_by_the_least_kinds(self):
        self.told(LEAST, self.CALL, ASK, ("read", "c"), ("write", "a"))
        self.told(LEAST, ("call", 1, (), (read("a"), read("b"))), ("read", "b"), SAY)

    def test_by_greater_ones(self):
        kinds = [sorted(LEAST[0] + [("read", "d"), SAY]), LEAST[1], LEAST[2]]
        self.told(kinds, self.CALL, ASK, ("read", "c"), ("read", "d"), SAY, ("write", "a"))
        kinds = [LEAST[0], [("do", "f"), ("do", "g"), SAY], LEAST[2]]
        self.told(kinds, ("call", 1, (), (read("a"), read("b"))), ("read", "a"), ("read", "b"), SAY)

    def test_by_lesser_ones(self):
        self.told([[], [], []], self.CALL, ("read", "c"))
        self.told([[("do", "f")], [], []], self.CALL, ASK, ("read", "c"))
        self.told([[("write", "a")], [], []], self.CALL, ("read", "c"), ("write", "a"))

    def test_a_rule_that_calls_has_just_its_own_kind(self):
        deed = ("call", 2, (), (read("d"),))
        self.told([greatest(("f",)), greatest(("f", "g")), [("do", "g")]], deed, ("read", "d"))
        self.told([[], [], LEAST[2]], deed, ("read", "b"), ("read", "d"), SAY, ("write", "a"))

    def test_a_call_in_what_is_handed_to_another(self):
        kinds = [[("do", "f"), ("read", "d")], [("do", "f"), ("write", "c")], []]
        inner = ("call", 1, (), (ASK, say(1)))
        self.told(kinds, ("call", 0, (ONE,), (inner,)), ASK, ("read", "d"), ("write", "c"))
        self.told(kinds, ("call", 1, (), (ONE, ("call", 0, (ONE,), (ONE,)))), ("write", "c"))
        self.told([[], kinds[1], []], ("call", 0, (ONE,), (inner,)))

    def test_a_call_in_the_worths_of_another(self):
        kinds = [[("read", "d")], [("do", "f"), ("write", "c")], []]
        self.told(kinds, ("call", 0, (("call", 1, (), (ASK, say(1))),), (say(1),)), ASK, ("read", "d"), ("write", "c"))

    def test_own_shelves_of_where_it_was_handed(self):
        call = ("call", 0, (ONE,), (("write", "p", read("b")),))
        self.told(LEAST, ("own", "p", ONE, call), ("read", "b"), ("write", "a"))
        self.told(LEAST, call, ("read", "b"), ("write", "a"), ("write", "p"))

    def test_many_deeds(self):
        deep = say(1)
        for _ in range(3000):
            deep = ("call", 0, (ONE,), (deep,))
        self.told([[("ask",), ("do", "f")], [], []], deep, ASK, SAY)
        self.told([[("ask",)], [], []], deep, ASK)


class KindsThatLetRulesTheirs(unittest.TestCase):
    def settings(self):
        for seed in range(300):
            chance = Chance(seed)
            rules = chance.rules()
            yield chance, rules, [chance.deed(rules, (), depth) for depth in (2, 3, 4)]

    def test_beside_a_second_way(self):
        for chance, rules, deeds in self.settings():
            kinds = chance.kinds(rules)
            for deed in deeds:
                self.assertEqual(told_touches(rules, kinds, deed), sorted(plain_marks(rules, deed, kinds)))

    def test_the_least_kinds_tell_just_those_there_are(self):
        for _, rules, deeds in self.settings():
            for deed in deeds:
                self.assertEqual(told_touches(rules, least_kinds(rules), deed), touches(rules, deed))

    def test_no_fewer_marks_where_there_is_no_fault(self):
        more = 0
        for chance, rules, deeds in self.settings():
            kinds = [joined(one, other) for one, other in zip(chance.kinds(rules), least_kinds(rules))]
            self.assertIsNone(first_fault(rules, kinds))
            for deed in deeds:
                told = told_touches(rules, kinds, deed)
                self.assertTrue(is_less(touches(rules, deed), told) and fits(rules, deed, told))
                more += told != touches(rules, deed)
                for touch in trace(rules, deed, chance.store(), chance.asked()):
                    self.assertIn(touch[:-1], told)
        self.assertGreater(more, 50)


class HandedInAndTold(unittest.TestCase):
    def test_what_is_handed_in_stays_as_it_was(self):
        for seed in range(40):
            chance = Chance(seed)
            rules = chance.rules()
            handed = (rules, chance.deed(rules, (), 3), chance.kinds(rules), chance.kind(("f",)), chance.kind(("f",)),
                      chance.thing(5))
            before = copy.deepcopy(handed)
            rules, deed, kinds, one, other, thing = handed
            is_kind(thing, ("f",))
            is_kind(one, ("f",))
            for tell in (is_less, joined, both_of):
                tell(one, other)
            fits(rules, deed, one)
            too_much(rules, deed, one)
            least_kinds(rules)
            first_fault(rules, kinds)
            told_touches(rules, kinds, deed)
            self.assertEqual(handed, before)

    def test_told_lists_are_new_ones(self):
        kind, kinds = [SAY], [[("do", "f")], [("do", "g")], []]
        deed = ("call", 0, (ONE,), (say(1),))
        tells = (lambda: joined(kind, kind), lambda: joined(kind, []), lambda: joined([], kind), lambda: joined([], []),
                 lambda: both_of(kind, kind), lambda: both_of([], kind), lambda: too_much((), row(say(1), ASK), kind),
                 lambda: too_much((), ONE, []), lambda: least_kinds(RULES), lambda: least_kinds(RULES)[0],
                 lambda: least_kinds(()), lambda: first_fault(RULES, kinds)[1],
                 lambda: told_touches(RULES, kinds, deed), lambda: told_touches(RULES, kinds, ("call", 2, (), (ONE,))))
        for tell in tells:
            told = tell()
            before = copy.deepcopy(told)
            told.append(("more",))
            told.insert(0, "more")
            self.assertEqual(tell(), before)
            self.assertEqual((kind, kinds), ([SAY], [[("do", "f")], [("do", "g")], []]))


if __name__ == "__main__":
    unittest.main()
