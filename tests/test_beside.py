import copy
import itertools
import unittest

from shelfwork.beside import (all_may_go, clash, clashing, goes_twice, is_order, layers, may_go, order_matters, run_in)
from shelfwork.deeds import is_deed, is_rules
from shelfwork.running import run, run_all, run_by
from shelfwork.touches import touches
from helper import ONE, Chance, chain, comb, number, put, read, row, say, write

STORE = (10, 20, 30, 40)
ASK = ("ask",)

# A rule that does what is handed, and one that does not.
RULES = (((), ("f",), ("do", "f")), ((), ("f",), ONE))

READ_A, READ_B, WRITE_A, WRITE_B = read("a"), read("b"), write("a", 1), write("b", 1)


def plain_clash(rules, one, other):
    ones, others = touches(rules, one), touches(rules, other)
    found = [word for word in ("say", "ask") if (word,) in ones and (word,) in others]
    for shelf in "abcd":
        pairs = [(mark[0], another[0]) for mark in ones for another in others if mark[1:] == another[1:] == (shelf,)]
        if any("write" in pair for pair in pairs):
            found.append(shelf)
    return sorted(found)


class Clash(unittest.TestCase):
    def clash(self, one, other, *by, rules=()):
        for first, second in ((one, other), (other, one)):
            self.assertEqual(clash(rules, first, second), list(by), (first, second))
            self.assertIs(may_go(rules, first, second), len(by) == 0)
            self.assertIs(all_may_go(rules, [first, second]), len(by) == 0)
            self.assertEqual(clashing(rules, [first, second]), [(0, 1)] if by else [])

    def test_each_pair_of_like_shelves(self):
        for shelf in "abcd":
            self.clash(read(shelf), write(shelf, 1), shelf)
            self.clash(write(shelf, 1), write(shelf, 2), shelf)
            self.clash(read(shelf), read(shelf))

    def test_each_pair_of_unlike_shelves(self):
        for one, other in itertools.permutations("abcd", 2):
            self.clash(read(one), write(other, 1))
            self.clash(write(one, 1), write(other, 1))
            self.clash(read(one), read(other))

    def test_say_and_ask(self):
        self.clash(say(1), say(2), "say")
        self.clash(ASK, ASK, "ask")
        self.clash(say(1), ASK)
        for quiet in (ONE, READ_A, WRITE_A):
            self.clash(say(1), quiet)
            self.clash(ASK, quiet)

    def test_a_deed_without_touches(self):
        self.clash(ONE, ONE)
        self.clash(ONE, row(WRITE_A, say(1), ASK))
        self.clash(ONE, READ_A)

    def test_by_several_rising(self):
        one = row(say(1), READ_B, write("d", 1), ASK, WRITE_A, read("c"))
        other = row(WRITE_B, ASK, read("d"), say(2), READ_A, read("c"))
        self.clash(one, other, "a", "ask", "b", "d", "say")
        everything = row(*[write(shelf, 1) for shelf in "dcba"], say(1), ASK)
        self.clash(everything, everything, "a", "ask", "b", "c", "d", "say")

    def test_none_twice(self):
        both = ("write", "a", READ_A)
        self.clash(both, both, "a")
        self.clash(both, READ_A, "a")
        self.clash(both, WRITE_A, "a")

    def test_a_deed_with_itself(self):
        for deed, by in ((ONE, []), (READ_A, []), (WRITE_A, ["a"]), (say(1), ["say"]), (ASK, ["ask"]),
                         (("write", "b", READ_A), ["b"])):
            self.clash(deed, deed, *by)

    def test_parts_that_a_run_never_comes_to(self):
        self.clash(("loop", number(0), WRITE_A), ("if", number(0), READ_A, ONE), "a")

    def test_own_shelves_do_not_clash(self):
        own = ("own", "p", ONE, ("write", "p", read("p")))
        self.clash(own, own)

    def test_by_rules_and_handed_deeds(self):
        self.clash(("call", 0, (), (WRITE_A,)), READ_A, "a", rules=RULES)
        self.clash(("call", 0, (), (WRITE_A,)), ("call", 0, (), (READ_A,)), "a", rules=RULES)
        self.clash(("call", 1, (), (WRITE_A,)), READ_A, rules=RULES)

    def test_many_deeds(self):
        self.clash(chain(5000), chain(4000), "say")
        self.clash(chain(5000), comb(5001))

    def test_chance_deeds(self):
        told = {}
        for seed in range(300):
            chance = Chance(seed)
            rules = chance.rules()
            one, other = [chance.deed(rules, (), 2) for _ in range(2)]
            by = plain_clash(rules, one, other)
            self.clash(one, other, *by, rules=rules)
            told.update((each, True) for each in by or ["none"])
        self.assertEqual(sorted(told), ["a", "ask", "b", "c", "d", "none", "say"])


class Several(unittest.TestCase):
    def told(self, deeds, pairs, rules=()):
        self.assertEqual(clashing(rules, deeds), pairs)
        self.assertIs(all_may_go(rules, deeds), pairs == [])

    def test_none_and_one(self):
        self.told([], [])
        for deed in (ONE, READ_A, WRITE_A, say(1), ASK):
            self.told([deed], [])

    def test_several_that_may_go(self):
        self.told([WRITE_A, READ_B, read("c"), READ_B, say(1), ASK, ONE], [])

    def test_several_that_clash(self):
        self.told([READ_A, WRITE_A, READ_A], [(0, 1), (1, 2)])
        self.told([WRITE_A, READ_B, READ_A, WRITE_B, WRITE_A], [(0, 2), (0, 4), (1, 3), (2, 4)])
        self.told([say(1), ASK, say(2), ASK, ("say", ASK)], [(0, 2), (0, 4), (1, 3), (1, 4), (2, 4), (3, 4)])
        self.told([WRITE_A] * 4, [(0, 1), (0, 2), (0, 3), (1, 2), (1, 3), (2, 3)])

    def test_first_and_last(self):
        self.told([WRITE_A, ONE, READ_B, ONE, READ_A], [(0, 4)])

    def test_more_than_nine_rise_as_numbers(self):
        deeds = [ONE] * 12
        deeds[2], deeds[9], deeds[10] = WRITE_A, READ_A, READ_A
        self.told(deeds, [(2, 9), (2, 10)])

    def test_chance_deeds(self):
        for seed in range(100):
            chance = Chance(seed)
            rules = chance.rules()
            deeds = [chance.deed(rules, (), 1) for _ in range(5)]
            self.told(deeds, [(one, other) for one, other in itertools.combinations(range(5), 2)
                              if plain_clash(rules, deeds[one], deeds[other])], rules)


class Layers(unittest.TestCase):
    def told(self, deeds, rows):
        self.assertEqual(layers((), deeds), rows)

    def test_no_deeds(self):
        self.told([], [])

    def test_one(self):
        self.told([WRITE_A], [[0]])

    def test_none_clash(self):
        self.told([READ_A, WRITE_B, say(1), ASK, READ_A, ONE], [[0, 1, 2, 3, 4, 5]])

    def test_all_clash(self):
        self.told([WRITE_A, ("write", "a", READ_A), WRITE_A, READ_A], [[0], [1], [2], [3]])
        self.told([say(1)] * 5, [[0], [1], [2], [3], [4]])

    def test_a_later_one_in_an_earlier_layer(self):
        self.told([WRITE_A, READ_A, WRITE_A, WRITE_B, READ_B], [[0, 3], [1, 4], [2]])
        self.told([WRITE_A, WRITE_A, WRITE_A, ONE], [[0, 3], [1], [2]])

    def test_behind_the_last_of_those_that_clash(self):
        # The last one clashes with one in the first layer, and with one in the third.
        self.told([say(1), WRITE_A, WRITE_A, WRITE_A, ("say", READ_A)], [[0, 1], [2], [3], [4]])
        self.told([WRITE_A, WRITE_A, WRITE_A, WRITE_B, ("write", "a", READ_B)], [[0, 3], [1], [2], [4]])
        self.told([WRITE_B, WRITE_A, WRITE_A, READ_B], [[0, 1], [2, 3]])

    def test_readers_stand_beside_one_another(self):
        self.told([WRITE_A, READ_A, READ_A, WRITE_A, READ_A], [[0], [1, 2], [3], [4]])

    def test_by_rules(self):
        deeds = [("call", at, (), (WRITE_A,)) for at in (0, 1, 0)]
        self.assertEqual(layers(RULES, deeds), [[0, 1], [2]])

    def test_more_than_nine_rise_as_numbers(self):
        self.told([ONE] * 12, [list(range(12))])

    def test_chance_deeds_keep_their_order_and_no_fewer_will_do(self):
        counts = {}
        for seed in range(150):
            chance = Chance(seed)
            rules = chance.rules()
            deeds = [chance.deed(rules, (), 1) for _ in range(5)]
            rows = layers(rules, deeds)
            pairs = clashing(rules, deeds)
            self.assertEqual(sorted(sum(rows, [])), list(range(5)))
            self.assertTrue(all(each == sorted(each) and each for each in rows))
            at = {deed: place for place, each in enumerate(rows) for deed in each}
            self.assertTrue(all(at[one] < at[other] for one, other in pairs))
            for other in range(5):
                behind = [at[one] + 1 for one in range(other) if (one, other) in pairs]
                self.assertEqual(at[other], max(behind, default=0))
            for places in itertools.product(range(len(rows) - 1), repeat=5):
                self.assertFalse(all(places[one] < places[other] for one, other in pairs), (rules, deeds))
            counts[len(rows)] = True
        self.assertEqual(sorted(counts), [1, 2, 3, 4, 5])

    def test_layers_in_their_order_come_to_the_same(self):
        for seed in range(100):
            chance = Chance(seed)
            rules = chance.rules()
            deeds = [chance.deed(rules, (), 2) for _ in range(5)]
            store, asked = chance.store(), chance.asked()
            rows = layers(rules, deeds)
            expected = run_all(rules, deeds, store, asked)
            self.assertEqual(run_in(rules, deeds, sum(rows, []), store, asked), expected)
            mixed = sum([chance.shuffled(each) for each in rows], [])
            self.assertIs(is_order(rules, deeds, mixed), True)
            self.assertEqual(run_in(rules, deeds, mixed, store, asked), expected)


class Orders(unittest.TestCase):
    DEEDS = [WRITE_A, READ_B, READ_A, say(1)]

    def order(self, order, told, deeds=None, rules=()):
        self.assertIs(is_order(rules, self.DEEDS if deeds is None else deeds, order), told, order)

    def test_those_that_clash_as_they_were(self):
        for order in itertools.permutations(range(4)):
            self.order(list(order), order.index(0) < order.index(2))

    def test_no_deeds_and_one(self):
        self.order([], True, [])
        self.order([0], True, [WRITE_A])
        self.order([0], False, [])
        self.order([], False, [WRITE_A])

    def test_none_clash(self):
        for order in itertools.permutations(range(3)):
            self.order(list(order), True, [ONE, READ_A, say(1)])

    def test_all_clash(self):
        for order in itertools.permutations(range(3)):
            self.order(list(order), order == (0, 1, 2), [WRITE_A] * 3)

    def test_a_number_left_out(self):
        for order in ([], [0], [0, 1, 2], [1, 2, 3], [0, 2, 3]):
            self.order(order, False)

    def test_a_number_twice(self):
        for order in ([0, 1, 2, 3, 3], [0, 0, 1, 2, 3], [0, 1, 2, 2], [0, 0, 2, 3], [0, 0, 0, 0]):
            self.order(order, False)
        self.order([0, 0], False, [ONE])

    def test_a_number_that_no_deed_has(self):
        for order in ([0, 1, 2, 3, 4], [0, 1, 2, 4], [4, 0, 1, 2, 3], [1, 2, 3, 4], [10 ** 20, 0, 1, 2]):
            self.order(order, False)
        self.order([1], False, [ONE])

    def test_below_none(self):
        for order in ([-1, 0, 1, 2], [0, 1, 2, -1], [-1, 0, 1, 2, 3], [-4, -3, -2, -1]):
            self.order(order, False)
        self.order([-1], False, [ONE])
        self.order([0, -1], False, [ONE, ONE])

    def test_by_rules(self):
        for at in (0, 1):
            self.order([1, 0], at == 1, [("call", at, (), (WRITE_A,)), READ_A], RULES)

    def test_orders_come_to_the_same(self):
        others = 0
        for seed in range(80):
            chance = Chance(seed)
            rules = chance.rules()
            deeds = [chance.deed(rules, (), chance.chance.choice([1, 2])) for _ in range(4)]
            store, asked = chance.store(), chance.asked()
            expected = run_all(rules, deeds, store, asked)
            pairs = clashing(rules, deeds)
            for order in itertools.permutations(range(4)):
                keeps = all(order.index(one) < order.index(other) for one, other in pairs)
                self.assertIs(is_order(rules, deeds, list(order)), keeps)
                if keeps:
                    others += order != (0, 1, 2, 3)
                    self.assertEqual(run_in(rules, deeds, list(order), store, asked), expected, (rules, deeds, order))
        self.assertGreater(others, 100)


class RunIn(unittest.TestCase):
    def test_no_deeds(self):
        self.assertEqual(run_in((), [], [], STORE, [1]), ([], STORE, [], 0))

    def test_as_they_are(self):
        deeds = [put("a", say(1), 1), ("say", ("add", read("a"), ASK)), ASK]
        self.assertEqual(run_in((), deeds, [0, 1, 2], STORE, [5]), run_all((), deeds, STORE, [5]))

    def test_worths_by_the_numbers_of_the_deeds(self):
        deeds = [number(7), say(8), ASK]
        for order in itertools.permutations(range(3)):
            self.assertEqual(run_in((), deeds, list(order), STORE, [9]), ([7, 8, 9], STORE, [8], 1))

    def test_in_this_order(self):
        deeds = [say(1), say(2), say(3)]
        self.assertEqual(run_in((), deeds, [2, 0, 1], STORE, []), ([1, 2, 3], STORE, [3, 1, 2], 0))
        self.assertEqual(run_in((), deeds, [1, 2, 0], STORE, []), ([1, 2, 3], STORE, [2, 3, 1], 0))
        self.assertEqual(run_in((), [ASK, ASK, ASK], [1, 2, 0], STORE, [5, 6]), ([0, 5, 6], STORE, [], 3))

    def test_those_that_clash_in_another_order(self):
        deeds = [WRITE_A, read("a"), write("a", 2)]
        self.assertEqual(run_in((), deeds, [2, 1, 0], STORE, []), ([1, 2, 2], (1, 20, 30, 40), [], 0))
        self.assertEqual(run_in((), deeds, [1, 0, 2], STORE, []), ([1, 10, 2], (2, 20, 30, 40), [], 0))

    def test_by_rules(self):
        deeds = [("call", 0, (), (put("a", ONE, 5),)), ("call", 0, (), (read("a"),))]
        self.assertEqual(run_in(RULES, deeds, [1, 0], STORE, []), ([15, 10], (15, 20, 30, 40), [], 0))

    def test_chance_deeds(self):
        for seed in range(100):
            chance = Chance(seed)
            rules = chance.rules()
            deeds = [chance.deed(rules, (), 2) for _ in range(4)]
            order, store, asked = chance.shuffled(range(4)), chance.store(), chance.asked()
            told = run_all(rules, [deeds[at] for at in order], store, asked)
            worths = [told[0][order.index(at)] for at in range(4)]
            self.assertEqual(run_in(rules, deeds, order, store, asked), (worths, *told[1:]))


class OrderMatters(unittest.TestCase):
    def matters(self, one, other, told, store=STORE, asked=(), rules=()):
        self.assertIs(order_matters(rules, one, other, store, list(asked)), told)
        self.assertIs(order_matters(rules, other, one, store, list(asked)), told)

    def test_worths(self):
        self.matters(READ_A, WRITE_A, True)
        self.matters(ASK, ASK, True, asked=[1, 2])
        self.matters(ASK, ASK, True, asked=[1])

    def test_store(self):
        self.matters(WRITE_A, write("a", 2), True)
        # Both bring the same, but the shelf is left otherwise.
        self.matters(("then", WRITE_A, ONE), ("then", write("a", 2), ONE), True)

    def test_said(self):
        self.matters(say(1), say(2), True)
        self.matters(("then", say(1), ONE), ("then", say(2), ONE), True)
        self.matters(("loop", READ_A, say(1)), WRITE_A, True, store=(2, 0, 0, 0))

    def test_how_many_were_asked(self):
        # The worths, the store and what is said are the same: only the asks are more.
        asker = ("loop", READ_A, ASK)
        self.matters(asker, WRITE_A, True, store=(2, 0, 0, 0))
        self.assertEqual(run_all((), [asker, WRITE_A], (2, 0, 0, 0), [])[:3],
                         run_in((), [asker, WRITE_A], [1, 0], (2, 0, 0, 0), [])[:3])

    def test_none_differs(self):
        self.matters(ONE, number(2), False)
        self.matters(READ_A, number(2), False)
        self.matters(WRITE_A, write("b", 2), False)
        self.matters(say(1), ASK, False, asked=[5])

    def test_none_differs_though_they_clash(self):
        self.matters(READ_A, WRITE_A, False, store=(1, 0, 0, 0))
        self.matters(WRITE_A, WRITE_A, False)
        self.matters(say(1), say(1), False)
        self.matters(ASK, ASK, False)
        self.matters(ASK, ASK, False, asked=[4, 4])
        self.matters(put("a", ONE, 1), ("then", put("a", ONE, 3), ONE), True)
        self.matters(("then", put("a", ONE, 1), ONE), ("then", put("a", ONE, 3), ONE), False)

    def test_by_rules(self):
        self.matters(("call", 0, (), (WRITE_A,)), READ_A, True, rules=RULES)
        self.matters(("call", 1, (), (WRITE_A,)), READ_A, False, rules=RULES)

    def test_where_it_matters_they_clash(self):
        told = {True: 0, False: 0}
        for seed in range(400):
            chance = Chance(seed)
            rules = chance.rules()
            one, other = [chance.deed(rules, (), 2) for _ in range(2)]
            store, asked = chance.store(), chance.asked()
            matters = order_matters(rules, one, other, store, asked)
            first, second = run_all(rules, [one, other], store, asked), run_all(rules, [other, one], store, asked)
            self.assertEqual(matters, (list(reversed(second[0])), *second[1:]) != first)
            self.assertFalse(matters and may_go(rules, one, other))
            told[matters] += 1
        self.assertGreater(min(told.values()), 50)


class ManyDeeds(unittest.TestCase):
    def test_far_more_than_sixty(self):
        deeds = [chain(3000), comb(3001), chain(3000), ("say", chain(2000))]
        self.assertEqual(clashing((), deeds), [(0, 2), (0, 3), (2, 3)])
        self.assertEqual(layers((), deeds), [[0, 1], [2], [3]])
        self.assertIs(is_order((), deeds, [0, 2, 1, 3]), True)
        self.assertIs(is_order((), deeds, [2, 0, 1, 3]), False)
        told = run_in((), deeds, [3, 2, 1, 0], STORE, [])
        self.assertEqual(told, ([1, 1501 % 1009, 1, 1], STORE, [1] * 7998, 0))
        self.assertIs(order_matters((), deeds[0], deeds[2], STORE, []), False)
        self.assertIs(order_matters((), deeds[0], say(2), STORE, []), True)


class SideBySide(unittest.TestCase):
    def test_any_turns_and_any_order_come_to_the_same(self):
        counts = {}
        touched = 0
        for seed in range(200):
            chance = Chance(seed)
            rules = chance.rules()
            deeds = chance.deeds_apart(rules, 4, may_go)
            self.assertIs(all_may_go(rules, deeds), True)
            counts[len(deeds)] = counts.get(len(deeds), 0) + 1
            touched += sum(len(touches(rules, deed)) > 1 for deed in deeds)
            store, asked = chance.store(), chance.asked()
            expected = run_all(rules, deeds, store, asked)
            for _ in range(6):
                turns = chance.turns(len(deeds))
                self.assertEqual(run_by(rules, deeds, store, asked, turns), expected, (rules, deeds, turns))
                order = chance.shuffled(range(len(deeds)))
                self.assertEqual(run_in(rules, deeds, order, store, asked), expected, (rules, deeds, order))
        self.assertGreater(counts[4], 100)
        self.assertGreater(touched, 100)

    def test_all_turns_of_some_deeds(self):
        deeds = [("call", 0, (), (put("a", ASK, 1),)), ("write", "c", ("add", read("b"), read("d"))),
                 ("then", say(1), ("say", read("b")))]
        self.assertTrue(is_rules(RULES) and all(is_deed(RULES, deed) for deed in deeds))
        self.assertIs(all_may_go(RULES, deeds), True)
        expected = run_all(RULES, deeds, STORE, [5])
        for turns in set(itertools.permutations([0] * 3 + [1] * 3 + [2] * 3)):
            self.assertEqual(run_by(RULES, deeds, STORE, [5], list(turns)), expected)


class GoesTwice(unittest.TestCase):
    def twice(self, deed, told, rules=()):
        self.assertIs(goes_twice(rules, deed), told, deed)

    def test_only_reads(self):
        self.twice(ONE, True)
        self.twice(READ_A, True)
        self.twice(row(*[read(shelf) for shelf in "abcd"]), True)

    def test_writes_what_it_does_not_read(self):
        self.twice(WRITE_A, True)
        self.twice(("write", "a", READ_B), True)
        self.twice(row(("write", "c", read("d")), ("write", "a", READ_B)), True)
        self.twice(row(*[write(shelf, 1) for shelf in "abcd"]), True)

    def test_writes_what_it_reads(self):
        for shelf in "abcd":
            self.twice(("write", shelf, read(shelf)), False)
            self.twice(("then", write(shelf, 1), read(shelf)), False)
            self.twice(row(read(shelf), write("a", 1), write("b", 1), write("c", 1), write("d", 1)), False)
        self.twice(("then", ("loop", number(0), WRITE_A), READ_A), False)

    def test_says_and_asks(self):
        self.twice(say(1), False)
        self.twice(ASK, False)
        self.twice(("write", "a", ASK), False)
        self.twice(("then", WRITE_A, say(1)), False)
        self.twice(("then", READ_A, ("loop", number(0), say(1))), False)

    def test_own_shelves(self):
        self.twice(("own", "p", ONE, ("write", "p", read("p"))), True)

    def test_by_rules_and_handed_deeds(self):
        self.twice(("call", 0, (), (say(1),)), False, RULES)
        self.twice(("call", 1, (), (say(1),)), True, RULES)
        self.twice(("call", 0, (), (("write", "a", READ_B),)), True, RULES)

    def test_many_deeds(self):
        self.twice(chain(5000), False)
        self.twice(comb(5001), True)

    def test_such_a_deed_run_again_comes_to_the_same(self):
        writers = 0
        for seed in range(600):
            chance = Chance(seed)
            rules = chance.rules()
            for deed in [chance.deed(rules, (), depth) for depth in (1, 2, 2, 3)]:
                marks = touches(rules, deed)
                right = not any(mark[0] in ("say", "ask") for mark in marks) and not any(
                    ("read", shelf) in marks and ("write", shelf) in marks for shelf in "abcd")
                self.assertIs(goes_twice(rules, deed), right)
                if right:
                    store, asked = chance.store(), chance.asked()
                    worth, behind, said, asks = run(rules, deed, store, asked)
                    self.assertEqual(run_all(rules, [deed, deed], store, asked), ([worth, worth], behind, [], 0))
                    writers += behind != store
        self.assertGreater(writers, 20)


class HandedInAndTold(unittest.TestCase):
    def test_what_is_handed_in_stays_as_it_was(self):
        for seed in range(40):
            chance = Chance(seed)
            rules = chance.rules()
            deeds = [chance.deed(rules, (), 2) for _ in range(4)]
            handed = (rules, deeds, chance.shuffled(range(4)), chance.store(), chance.asked())
            before = copy.deepcopy(handed)
            order, store, asked = handed[2:]
            clash(rules, deeds[0], deeds[1])
            may_go(rules, deeds[0], deeds[1])
            goes_twice(rules, deeds[0])
            order_matters(rules, deeds[0], deeds[1], store, asked)
            for tell in (all_may_go, clashing, layers):
                tell(rules, deeds)
            is_order(rules, deeds, order)
            is_order(rules, deeds, [0, 1, 1])
            run_in(rules, deeds, order, store, asked)
            self.assertEqual(handed, before)

    def test_told_lists_are_new_ones(self):
        deeds = [WRITE_A, READ_A, say(1)]
        order = [2, 0, 1]
        for tell in (lambda: clash((), WRITE_A, READ_A), lambda: clash((), ONE, ONE), lambda: clashing((), deeds),
                     lambda: clashing((), []), lambda: layers((), deeds), lambda: layers((), deeds)[0],
                     lambda: layers((), []), lambda: run_in((), deeds, order, STORE, [])[0],
                     lambda: run_in((), deeds, order, STORE, [])[2], lambda: run_in((), [], [], STORE, [])[0]):
            told = tell()
            before = copy.deepcopy(told)
            told.append(99)
            told[0] = 77
            self.assertEqual(tell(), before)
            self.assertEqual(order, [2, 0, 1])


if __name__ == "__main__":
    unittest.main()
