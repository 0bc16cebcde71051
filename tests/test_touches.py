import copy
import unittest

from shelfwork.deeds import is_deed, is_rules
from shelfwork.running import run, trace
from shelfwork.touches import is_quiet, reads_of, rule_touches, touches, untouched, writes_of
from helper import (ALL_MARKS, FIFTEEN, ONE, RULES, Chance, chain, comb, name, number, plain_marks, read, row,
                    rules_with, say, write)

STORE = (10, 20, 30, 40)
ASK = ("ask",)
EVERYTHING = row(*[read(shelf) for shelf in "abcd"], *[write(shelf, 1) for shelf in "abcd"], say(1), ASK)


def do(handed):
    return ("do", handed)


def own(shelf, one, body):
    return ("own", shelf, one, body)


def hand(number_of_rule, *handed):
    return ("call", number_of_rule, (), handed)


class Touches(unittest.TestCase):
    def has(self, deed, *marks, rules=()):
        """The marks are to be given in their order."""
        self.assertTrue(is_rules(rules), rules)
        self.assertTrue(is_deed(rules, deed), deed)
        self.assertEqual(touches(rules, deed), list(marks), deed)

    def rule_has(self, rules, number_of_rule, *marks):
        self.assertTrue(is_rules(rules), rules)
        self.assertEqual(rule_touches(rules, number_of_rule), list(marks))


class EachOfTheFifteen(Touches):
    def test_each_by_itself(self):
        marks = {"write": [("write", "b")], "say": [("say",)], "ask": [("ask",)]}
        for word, deed in FIFTEEN.items():
            if word not in ("name", "read", "do"):
                self.has(deed, *marks.get(word, []), rules=RULES)
        for shelf in "abcd":
            self.has(read(shelf), ("read", shelf))
            self.has(write(shelf, 1), ("write", shelf))

    def test_each_within_a_rule(self):
        marks = {"write": [("write", "b")], "say": [("say",)], "ask": [("ask",)], "do": [("do", "f")]}
        for word, deed in FIFTEEN.items():
            self.rule_has(rules_with(own("p", ONE, deed)), 2, *marks.get(word, []))

    def test_each_has_the_marks_of_all_its_parts(self):
        one, other, third = read("a"), write("b", 1), say(1)
        a, b, said = ("read", "a"), ("write", "b"), ("say",)
        rules = ((("x", "y"), ("f", "g"), ("then", do("f"), do("g"))),)
        self.has(("write", "c", one), a, ("write", "c"))
        self.has(("write", "a", one), a, ("write", "a"))
        self.has(("say", one), a, said)
        for word in ("add", "less", "then", "loop"):
            self.has((word, one, other), a, b)
            self.has((word, other, one), a, b)
        for word, called in (("let", "x"), ("own", "p")):
            self.has((word, called, one, other), a, b)
            self.has((word, called, other, one), a, b)
        for parts in ((one, other, third), (other, third, one), (third, one, other)):
            self.has(("if",) + parts, a, said, b)
        self.has(("call", 0, (one, other), (third, ASK)), ASK, a, said, b, rules=rules)

    def test_numbers_and_names_have_none(self):
        self.has(number(0))
        self.has(("let", "x", number(3), name("x")))

    def test_marks_far_within(self):
        deed = ("add", ONE, ("if", ONE, ONE, ("loop", ONE, ("let", "x", ONE, ("say", ("less", ("ask",), read("c")))))))
        self.has(deed, ("ask",), ("read", "c"), ("say",))


class WhetherItComesToThemOrNot(Touches):
    def test_both_of_an_if_of_a_number(self):
        for test in (0, 1, 1008):
            self.has(("if", number(test), read("a"), write("b", 1)), ("read", "a"), ("write", "b"))

    def test_the_body_of_a_loop_of_none(self):
        for often in (0, 1, 4, 1008):
            self.has(("loop", number(often), say(1)), ("say",))

    def test_a_handed_deed_that_is_done_in_such_a_part(self):
        for body in (("if", number(0), do("f"), ONE), ("if", number(1), ONE, do("f")), ("loop", number(0), do("f"))):
            self.has(hand(0, ASK), ("ask",), rules=(((), ("f",), body),))

    def test_a_call_in_such_a_part(self):
        rules = (((), (), write("d", 1)),)
        self.has(("loop", number(0), hand(0)), ("write", "d"), rules=rules)


class OwnShelves(Touches):
    def test_none_of_its_own_shelf_of_those_in_its_body(self):
        self.has(own("p", ONE, read("p")))
        self.has(own("p", ONE, ("write", "p", read("p"))))
        self.has(own("p3", ONE, row(write("p3", 1), read("p3"), write("a", 1), read("b"))), ("read", "b"), ("write", "a"))

    def test_the_marks_of_its_one_stay(self):
        self.has(own("p", read("a"), read("p")), ("read", "a"))
        self.has(own("q", ("write", "a", ASK), ONE), ("ask",), ("write", "a"))

    def test_its_one_may_be_of_an_outer_one_of_like_name(self):
        self.has(own("p", ONE, own("p", read("p"), read("p"))))
        self.has(own("p", read("b"), own("p", ("write", "p", read("c")), write("p", 1))), ("read", "b"), ("read", "c"))
        # Told of the inner one alone, these are the outer shelf's.
        self.assertEqual(touches((), own("p", read("p"), write("p", 1))), [("read", "p")])
        self.assertEqual(touches((), own("p", write("p", 1), read("p"))), [("write", "p")])

    def test_those_of_another_one_around_it(self):
        self.has(own("p", ONE, own("q", read("p"), row(write("p", 1), read("q"), read("a")))), ("read", "a"))
        inner = own("q", ONE, row(write("p", 1), read("p"), write("q", 2)))
        self.assertEqual(touches((), inner), [("read", "p"), ("write", "p")])
        self.assertEqual(touches((), own("p", ONE, inner)), [])
        self.assertEqual(touches((), own("p0", ONE, inner)), [("read", "p"), ("write", "p")])

    def test_those_beside_its_body_stay(self):
        self.assertEqual(touches((), ("then", own("p", ONE, read("p")), write("p", 1))), [("write", "p")])
        self.assertEqual(touches((), ("then", read("p"), own("p", ONE, write("p", 1)))), [("read", "p")])

    def test_names_of_like_figures_are_unlike(self):
        deed = own("p", ONE, own("p0", ONE, own("p00", ONE, row(read("p"), read("p0"), read("p00")))))
        self.has(deed)
        self.assertEqual(touches((), deed[3]), [("read", "p")])
        self.assertEqual(touches((), deed[3][3]), [("read", "p"), ("read", "p0")])


class Calls(Touches):
    def test_of_its_worths_and_of_the_body(self):
        rules = ((("x",), (), ("say", name("x"))),)
        self.has(("call", 0, (read("a"),), ()), ("read", "a"), ("say",), rules=rules)

    def test_worths_that_the_body_does_not_name(self):
        rules = ((("x", "y"), (), ONE),)
        self.has(("call", 0, (ASK, write("c", 1)), ()), ("ask",), ("write", "c"), rules=rules)

    def test_a_handed_deed_that_is_done_once_more_than_once_or_never(self):
        bodies = ((do("f"), True), (row(do("f"), do("f"), do("f")), True), (("loop", number(3), do("f")), True),
                  (ONE, False), (say(1), False))
        for body, done in bodies:
            marks = touches((((), ("f",), body),), hand(0, write("a", 1)))
            self.assertEqual(("write", "a") in marks, done, body)
            self.assertEqual(("say",) in marks, body == say(1), body)

    def test_none_in_the_stead_of_do_is_left(self):
        for often in (1, 2, 3):
            self.has(hand(0, ONE), rules=(((), ("f",), row(*[do("f")] * often)),))

    def test_each_handed_deed_stands_for_its_own_name(self):
        handed = (write("a", 1), say(1))
        for names in (("f", "g"), ("g", "f"), ("g7", "f")):
            self.has(hand(0, *handed), ("write", "a"), rules=(((), names, do(names[0])),))
            self.has(hand(0, *handed), ("say",), rules=(((), names, do(names[1])),))
            self.has(hand(0, *handed), rules=(((), names, ONE),))
            self.has(hand(0, *handed), ("say",), ("write", "a"), rules=(((), names, row(do("f"), do(names[0]),
                                                                                       do(names[1]))),))

    def test_a_handed_deed_handed_on(self):
        rules = (
            ((), ("f", "g"), do("g")),
            ((), ("f",), ("call", 0, (), (do("f"), ONE))),
            ((), ("f",), ("call", 0, (), (ONE, ("then", read("d"), do("f"))))),
            ((), ("g",), ("call", 2, (), (("say", do("g")),))),
        )
        self.rule_has(rules, 0, ("do", "g"))
        self.rule_has(rules, 1)
        self.rule_has(rules, 2, ("do", "f"), ("read", "d"))
        self.rule_has(rules, 3, ("do", "g"), ("read", "d"), ("say",))
        self.has(hand(1, ASK), rules=rules)
        self.has(hand(2, ASK), ("ask",), ("read", "d"), rules=rules)
        self.has(hand(3, ASK), ("ask",), ("read", "d"), ("say",), rules=rules)

    def test_a_handed_name_that_another_rule_uses_otherwise(self):
        rules = (((), ("f", "g"), ("then", do("f"), do("g"))),
                 ((), ("f", "g"), ("call", 0, (), (do("g"), say(1)))))
        self.rule_has(rules, 1, ("do", "g"), ("say",))
        self.has(hand(1, ASK, read("a")), ("read", "a"), ("say",), rules=rules)

    def test_a_call_within_what_is_handed(self):
        rules = (((), ("f",), ("say", do("f"))), ((), ("f",), ("write", "b", do("f"))), ((), ("f",), ONE))
        self.has(hand(0, hand(1, read("a"))), ("read", "a"), ("say",), ("write", "b"), rules=rules)
        self.has(hand(0, hand(2, read("a"))), ("say",), rules=rules)
        self.has(hand(2, hand(1, read("a"))), rules=rules)

    def test_a_call_within_its_worths(self):
        rules = (((), (), ASK), (("x",), (), name("x")))
        self.has(("call", 1, (("call", 1, (hand(0),), ()),), ()), ("ask",), rules=rules)

    def test_rules_that_call_rules(self):
        rules = tuple(((), (), ("then", read(shelf), hand(at - 1) if at else ONE)) for at, shelf in enumerate("dcba"))
        marks = [("read", shelf) for shelf in "abcd"]
        for at in range(4):
            self.rule_has(rules, at, *marks[3 - at:])
            self.has(hand(at), *marks[3 - at:], rules=rules)


class OwnShelvesOfHandedDeeds(Touches):
    # The body has an own shelf p; what is handed speaks of another p.
    RULES = (((), ("f",), own("p", ONE, row(write("p", 1), do("f"), read("p")))),)

    def test_they_are_those_of_where_it_was_handed(self):
        self.assertEqual(touches(self.RULES, hand(0, write("p", 1))), [("write", "p")])
        self.assertEqual(touches(self.RULES, hand(0, ("write", "p", read("p")))), [("read", "p"), ("write", "p")])
        self.has(own("p", ONE, hand(0, ("write", "p", read("p")))), rules=self.RULES)
        self.has(own("p", read("a"), hand(0, ("write", "b", read("p")))), ("read", "a"), ("write", "b"),
                 rules=self.RULES)

    def test_handed_on_within_such_a_body(self):
        rules = self.RULES + (((), ("f",), own("p", ONE, hand(0, ("then", do("f"), write("p", 2))))),)
        self.assertEqual(touches(rules, hand(1, read("p"))), [("read", "p")])
        self.rule_has(rules, 1, ("do", "f"))
        self.has(own("p", ONE, hand(1, read("p"))), rules=rules)


class RuleTouches(Touches):
    def test_with_the_marks_of_dos(self):
        body = row(do("g12"), say(1), do("f"), read("a"), do("f"))
        self.rule_has((((), ("f", "g12"), body),), 0, ("do", "f"), ("do", "g12"), ("read", "a"), ("say",))

    def test_each_rule_by_its_number(self):
        rules = tuple(((), (), read(shelf)) for shelf in "abcd")
        for at, shelf in enumerate("abcd"):
            self.rule_has(rules, at, ("read", shelf))


class Rising(Touches):
    def test_all_marks_in_their_order_with_none_twice(self):
        self.has(EVERYTHING, *ALL_MARKS)
        self.has(("then", EVERYTHING, EVERYTHING), *ALL_MARKS)

    def test_with_dos(self):
        body = ("then", EVERYTHING, row(do("g"), do("f")))
        self.rule_has((((), ("g", "f"), body),), 0, ("ask",), ("do", "f"), ("do", "g"), *ALL_MARKS[1:])

    def test_none_twice_from_rules_and_handed_deeds(self):
        rules = (((), ("f",), row(read("a"), do("f"), read("a"))),)
        self.has(row(hand(0, read("a")), read("a"), hand(0, read("a"))), ("read", "a"), rules=rules)


class ManyDeeds(Touches):
    def test_far_more_than_sixty(self):
        self.assertEqual(touches((), chain(20000)), [("say",)])
        self.assertEqual(touches((), comb(20001)), [])
        deep = read("c")
        for at in range(6000):
            shelf = "pq"[at % 2] + str(at % 1000)
            deep = own(shelf, ("add", ASK, ONE), ("write", shelf, ("let", "x", read(shelf), deep)))
        self.assertEqual(touches((), deep), [("ask",), ("read", "c")])
        self.assertEqual(touches((), own("p", ONE, ("write", "p", deep))), [("ask",), ("read", "c")])

    def test_deep_in_handed_deeds(self):
        rules = ((("x",), ("f",), ("then", do("f"), name("x"))),)
        deep = write("d", 1)
        for _ in range(5000):
            deep = ("call", 0, (read("a"),), (deep,))
        self.assertEqual(touches(rules, deep), [("read", "a"), ("write", "d")])

    def test_the_others_take_such_deeds(self):
        self.assertEqual(reads_of((), chain(5000)), [])
        self.assertEqual(writes_of((), chain(5000)), [])
        self.assertIs(is_quiet((), chain(5000)), False)
        self.assertIs(is_quiet((), comb(5001)), True)
        self.assertEqual(untouched((), chain(5000)), ["a", "b", "c", "d"])

    def test_more_rules_and_more_handed_deeds_than_told(self):
        rules = tuple(((), ("f", "g", "f1"), row(do("f1"), hand(at - 1, ASK, ASK, do("g")) if at else ONE))
                      for at in range(7))
        marks = [("ask",), ("read", "a"), ("write", "b")]
        self.assertEqual(touches(rules, hand(6, say(1), read("a"), write("b", 1))), marks)
        self.assertEqual(touches(rules, hand(0, say(1), read("a"), write("b", 1))), [("write", "b")])


class ReadsWritesQuietUntouched(Touches):
    def told(self, deed, reads, writes, quiet, rest, rules=()):
        self.assertTrue(is_deed(rules, deed), deed)
        self.assertEqual(reads_of(rules, deed), list(reads))
        self.assertEqual(writes_of(rules, deed), list(writes))
        self.assertIs(is_quiet(rules, deed), quiet)
        self.assertEqual(untouched(rules, deed), list(rest))

    def test_only_reads(self):
        self.told(read("b"), "b", "", True, "acd")
        self.told(row(read("d"), read("a"), read("d")), "ad", "", True, "bc")

    def test_only_writes(self):
        self.told(write("c", 1), "", "c", False, "abd")
        self.told(row(write("d", 1), write("b", 1), write("d", 2)), "", "bd", False, "ac")

    def test_reads_and_writes(self):
        self.told(("write", "a", read("b")), "b", "a", False, "cd")
        self.told(("write", "a", read("a")), "a", "a", False, "bcd")

    def test_says(self):
        self.told(say(1), "", "", False, "abcd")
        self.told(("say", read("a")), "a", "", False, "bcd")

    def test_asks(self):
        self.told(ASK, "", "", False, "abcd")
        self.told(("then", ASK, read("a")), "a", "", False, "bcd")

    def test_a_number(self):
        self.told(ONE, "", "", True, "abcd")

    def test_own_shelves(self):
        self.told(own("p", ONE, ("write", "p", read("p"))), "", "", True, "abcd")

    def test_all_four_shelves(self):
        self.told(EVERYTHING, "abcd", "abcd", False, "")
        self.told(row(read("d"), write("b", 1), read("c"), write("a", 1)), "cd", "ab", False, "")
        self.told(row(*[read(shelf) for shelf in "dbca"]), "abcd", "", True, "")

    def test_by_rules_and_handed_deeds(self):
        rules = (((), ("f", "g"), ("write", "d", do("g"))),)
        self.told(hand(0, say(1), read("a")), "a", "d", False, "bc", rules=rules)


class ChanceDeeds(unittest.TestCase):
    def settings(self, count=300):
        for seed in range(count):
            chance = Chance(seed)
            rules = chance.rules()
            yield chance, rules, [chance.deed(rules, (), depth) for depth in (1, 2, 3, 4)]

    def test_beside_a_second_way(self):
        for _, rules, deeds in self.settings():
            for deed in deeds:
                self.assertEqual(touches(rules, deed), sorted(plain_marks(rules, deed)), (rules, deed))
            for at, rule in enumerate(rules):
                self.assertEqual(rule_touches(rules, at), sorted(plain_marks(rules, rule[2])), rules)

    def test_each_touch_of_a_run_has_its_mark(self):
        for chance, rules, deeds in self.settings():
            for deed in deeds:
                marks = touches(rules, deed)
                for touch in trace(rules, deed, chance.store(), chance.asked()):
                    self.assertIn(touch[:-1], marks, (rules, deed))

    def test_shelves_that_it_may_not_write_stay(self):
        for chance, rules, deeds in self.settings():
            for deed in deeds:
                store = chance.store()
                behind = run(rules, deed, store, chance.asked())[1]
                changed = [shelf for shelf, one, other in zip("abcd", store, behind) if one != other]
                self.assertLessEqual(set(changed), set(writes_of(rules, deed)))

    def test_it_comes_to_the_same_where_what_it_may_read_is_alike(self):
        for chance, rules, deeds in self.settings():
            for deed in deeds:
                reads, writes = reads_of(rules, deed), writes_of(rules, deed)
                store, asked = chance.store(), chance.asked()
                other = tuple(worth if shelf in reads else chance.worth() for shelf, worth in zip("abcd", store))
                others = asked if ("ask",) in touches(rules, deed) else chance.asked()
                told, also = run(rules, deed, store, asked), run(rules, deed, other, others)
                self.assertEqual((told[0], told[2:]), (also[0], also[2:]), (rules, deed))
                self.assertEqual(trace(rules, deed, store, asked), trace(rules, deed, other, others))
                for at, shelf in enumerate("abcd"):
                    if shelf not in writes:
                        self.assertEqual((told[1][at], also[1][at]), (store[at], other[at]))

    def test_a_quiet_deed_changes_nothing(self):
        quiet = 0
        for chance, rules, deeds in self.settings():
            for deed in deeds:
                if is_quiet(rules, deed):
                    quiet += 1
                    store = chance.store()
                    self.assertEqual(run(rules, deed, store, chance.asked())[1:], (store, [], 0))
        self.assertGreater(quiet, 50)


class HandedInAndTold(unittest.TestCase):
    def test_what_is_handed_in_stays_as_it_was(self):
        for seed in range(40):
            chance = Chance(seed)
            rules = chance.rules()
            deed = chance.deed(rules, (), 3)
            before = copy.deepcopy((rules, deed))
            for tell in (touches, reads_of, writes_of, is_quiet, untouched):
                tell(rules, deed)
            for at in range(len(rules)):
                rule_touches(rules, at)
            self.assertEqual((rules, deed), before)

    def test_told_lists_are_new_ones(self):
        rules = (((), ("f",), ("then", EVERYTHING, do("f"))),)
        for tell in (lambda: touches(rules, hand(0, ONE)), lambda: touches(rules, ONE), lambda: rule_touches(rules, 0),
                     lambda: reads_of(rules, hand(0, ONE)), lambda: reads_of((), ONE),
                     lambda: writes_of(rules, hand(0, ONE)), lambda: writes_of((), ONE),
                     lambda: untouched((), ONE), lambda: untouched((), EVERYTHING)):
            told = tell()
            before = list(told)
            told.insert(0, ("read", "z"))
            told.append("more")
            self.assertEqual(tell(), before)


if __name__ == "__main__":
    unittest.main()
