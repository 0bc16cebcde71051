import copy
import unittest

from shelfwork.beside import may_go
from shelfwork.errors import Clash, NoDeed, NotDone
from shelfwork.halls import Hall
from shelfwork.running import run_all, trace
from helper import ONE, RULES, TWO, Chance, PlainRun, chain, comb, name, number, put, read, row, say, write

STORE = (10, 20, 30, 40)
ASK = ("ask",)


def all_told(hall):
    """What every asking tells of a hall."""
    count = 0
    worths = {}
    going = hall.going()
    while True:
        try:
            worths[count] = hall.worth(count)
        except NotDone:
            worths[count] = None
        except NoDeed:
            break
        count += 1
    samples = (ONE, read("a"), write("a", 1), write("d", 1), say(1), ASK)
    waits = [hall.waits_for(deed) for deed in samples]
    return count, worths, going, waits, hall.store(), hall.said()


class HallTests(unittest.TestCase):
    def hall(self, *deeds, rules=(), store=STORE, asked=()):
        hall = Hall(rules, store, list(asked))
        for count, deed in enumerate(deeds):
            self.assertEqual(hall.begin(deed), count)
        return hall

    def refused(self, hall, error, *call):
        """The call is refused by this error, and the hall is as it was."""
        before = all_told(hall)
        for _ in range(2):
            with self.assertRaises(error) as caught:
                getattr(hall, call[0])(*call[1:])
            self.assertIs(type(caught.exception), error)
            self.assertEqual(all_told(hall), before)


class Begin(HallTests):
    def test_an_empty_hall(self):
        hall = self.hall()
        self.assertEqual(all_told(hall), (0, {}, [], [[]] * 6, STORE, []))
        self.assertEqual(hall.finish(), [])

    def test_a_deed_without_touches_is_done(self):
        rules = ((("x",), ("f",), ("then", ("do", "f"), name("x"))),)
        for deed, worth in ((number(7), 7), (("add", ONE, TWO), 3), (("own", "p", TWO, ("write", "p", read("p"))), 2),
                            (("call", 0, (number(5),), (ONE,)), 5), (("if", number(0), ASK, TWO), 2),
                            (("loop", number(4), say(1)), 0)):
            hall = self.hall(deed, rules=rules)
            self.assertEqual(hall.going(), [])
            self.assertEqual(hall.worth(0), worth)
            self.refused(hall, NotDone, "turn", 0)

    def test_a_deed_with_touches_is_not(self):
        for deed in (read("a"), write("a", 1), say(1), ASK, ("add", ONE, read("b")),
                     ("own", "p", ONE, ("say", read("p")))):
            hall = self.hall(deed)
            self.assertEqual(hall.going(), [0])
            self.assertEqual((hall.store(), hall.said()), (STORE, []))
            self.refused(hall, NotDone, "worth", 0)

    def test_it_does_nothing_as_it_begins(self):
        hall = self.hall(row(write("a", 1), say(2)), ("add", read("b"), ASK))
        self.assertEqual((hall.store(), hall.said(), hall.going()), (STORE, [], [0, 1]))

    def test_one_that_clashes_with_one_that_is_going(self):
        for one, other in ((read("a"), write("a", 1)), (write("a", 1), read("a")), (write("a", 1), write("a", 1)),
                           (say(1), say(2)), (ASK, ASK)):
            hall = self.hall(one)
            self.refused(hall, Clash, "begin", other)
            self.assertEqual(hall.going(), [0])

    def test_one_that_clashes_with_one_that_is_done(self):
        for one, other in ((read("a"), write("a", 1)), (write("a", 1), read("a")), (write("a", 1), write("a", 1)),
                           (say(1), say(2)), (ASK, ASK)):
            hall = self.hall(one)
            hall.turn(0)
            self.assertEqual(hall.begin(other), 1)
            self.assertEqual(hall.going(), [1])

    def test_one_that_clashes_by_what_is_behind_or_never_comes(self):
        hall = self.hall(row(write("a", 1), write("b", 1)))
        hall.turn(0)
        self.refused(hall, Clash, "begin", read("a"))
        hall = self.hall(row(ASK, ("if", number(0), say(1), ONE)))
        self.refused(hall, Clash, "begin", say(1))
        self.refused(hall, Clash, "begin", ("loop", number(0), say(1)))

    def test_one_without_touches_to_come_may_clash_as_well(self):
        hall = self.hall(say(1))
        self.refused(hall, Clash, "begin", ("if", number(0), say(2), ONE))
        hall = self.hall(("if", number(0), say(2), ONE), say(1))
        self.assertEqual((hall.going(), hall.worth(0)), ([1], 1))

    def test_no_number_is_given_to_one_that_was_refused(self):
        hall = self.hall(say(1), read("a"))
        self.refused(hall, Clash, "begin", say(2))
        self.refused(hall, Clash, "begin", write("a", 2))
        self.assertEqual(hall.begin(write("b", 1)), 2)
        self.refused(hall, NoDeed, "worth", 3)
        hall.finish()
        self.assertEqual(hall.begin(say(3)), 3)

    def test_one_that_clashes_with_the_last_of_several(self):
        hall = self.hall(read("a"), read("b"), read("a"))
        self.refused(hall, Clash, "begin", write("a", 1))
        hall.turn(0)
        self.refused(hall, Clash, "begin", write("a", 1))
        hall.turn(2)
        self.assertEqual(hall.begin(write("a", 1)), 3)

    def test_by_rules_and_handed_deeds(self):
        rules = (((), ("f",), ("do", "f")), ((), ("f",), ONE), ((), (), write("a", 5)))
        hall = self.hall(("call", 0, (), (say(1),)), rules=rules)
        self.refused(hall, Clash, "begin", say(2))
        self.refused(hall, Clash, "begin", ("call", 0, (), (say(2),)))
        self.assertEqual(hall.begin(("call", 1, (), (say(2),))), 1)
        self.assertEqual(hall.begin(("call", 2, (), ())), 2)
        self.assertEqual(hall.waits_for(read("a")), [2])
        self.assertEqual((hall.finish(), hall.store(), hall.said()), ([1, 1, 5], (5, 20, 30, 40), [1]))

    def test_own_shelves_do_not_clash(self):
        deed = ("own", "p", ONE, ("write", "p", ("add", read("p"), read("a"))))
        hall = self.hall(deed, deed)
        self.assertEqual(hall.finish(), [11, 11])


class GoingAndWaitsFor(HallTests):
    def test_none_one_and_several(self):
        hall = self.hall()
        self.assertEqual((hall.going(), hall.waits_for(write("a", 1))), ([], []))
        hall = self.hall(read("a"))
        self.assertEqual((hall.going(), hall.waits_for(write("a", 1)), hall.waits_for(read("a"))), ([0], [0], []))
        hall = self.hall(read("a"), ONE, read("b"), read("a"), say(1))
        self.assertEqual(hall.going(), [0, 2, 3, 4])
        self.assertEqual(hall.waits_for(write("a", 1)), [0, 3])
        self.assertEqual(hall.waits_for(row(write("a", 1), write("b", 1), say(1))), [0, 2, 3, 4])
        self.assertEqual(hall.waits_for(row(ASK, write("c", 1), read("a"))), [])

    def test_those_that_are_done_are_not_told(self):
        hall = self.hall(read("a"), read("a"), read("a"))
        hall.turn(1)
        self.assertEqual((hall.going(), hall.waits_for(write("a", 1))), ([0, 2], [0, 2]))
        hall.turn(0)
        self.assertEqual((hall.going(), hall.waits_for(write("a", 1))), ([2], [2]))
        hall.turn(2)
        self.assertEqual((hall.going(), hall.waits_for(write("a", 1))), ([], []))

    def test_more_than_nine_rise_as_numbers(self):
        hall = self.hall(*[read("a")] * 12)
        self.assertEqual((hall.going(), hall.waits_for(write("a", 1))), (list(range(12)), list(range(12))))

    def test_waits_for_begins_nothing(self):
        hall = self.hall(say(1))
        before = all_told(hall)
        hall.waits_for(say(1))
        hall.waits_for(read("a"))
        self.assertEqual(all_told(hall), before)


class Turn(HallTests):
    def test_each_of_the_four_touches(self):
        for deed, touch, store, said in ((read("b"), ("read", "b", 20), STORE, []),
                                         (write("c", 7), ("write", "c", 7), (10, 20, 7, 40), []),
                                         (say(7), ("say", 7), STORE, [7]), (ASK, ("ask", 5), STORE, [])):
            hall = self.hall(deed, asked=[5])
            self.assertEqual(hall.turn(0), touch)
            self.assertEqual((hall.going(), hall.store(), hall.said(), hall.worth(0)), ([], store, said, touch[-1]))

    def test_turn_by_turn_as_in_trace(self):
        rules = ((("x",), ("f",), row(("do", "f"), ("say", name("x")), ("do", "f"))),)
        deed = ("call", 0, (("add", ASK, read("a")),), (put("b", ASK, 1),))
        touches = trace(rules, deed, STORE, [1, 2])
        hall = self.hall(deed, rules=rules, asked=[1, 2])
        self.assertGreater(len(touches), 6)
        for touch in touches:
            self.assertEqual(hall.going(), [0])
            self.refused(hall, NotDone, "worth", 0)
            self.assertEqual(hall.turn(0), touch)
        self.assertEqual(hall.going(), [])
        self.refused(hall, NotDone, "turn", 0)
        self.assertEqual(([hall.worth(0)], hall.store(), hall.said(), 3), run_all(rules, [deed], STORE, [1, 2]))

    def test_behind_its_last_touch_it_goes_on_to_its_end(self):
        owns = ("own", "p", ONE, row(("loop", number(3), ("write", "p", TWO)), read("p")))
        hall = self.hall(("add", read("a"), owns))
        hall.turn(0)
        self.assertEqual((hall.going(), hall.worth(0)), ([], 12))

    def test_touches_that_do_not_come_are_not_waited_for(self):
        hall = self.hall(("if", read("a"), ONE, say(1)), ("loop", read("a"), ASK), store=(4, 0, 0, 0))
        hall.turn(0)
        hall.turn(1)
        self.assertEqual((hall.going(), hall.worth(0), hall.worth(1)), ([], 1, 0))

    def test_a_read_is_done_at_its_turn(self):
        hall = self.hall(row(read("a"), read("a")), write("b", 5))
        self.assertEqual(hall.turn(0), ("read", "a", 10))
        self.assertEqual(hall.turn(1), ("write", "b", 5))
        self.assertEqual(hall.begin(read("b")), 2)
        self.assertEqual(hall.turn(2), ("read", "b", 5))
        self.assertEqual(hall.turn(0), ("read", "a", 10))
        self.assertEqual(hall.going(), [])

    def test_several_in_turns(self):
        hall = self.hall(row(write("a", 1), write("a", 2)), row(say(1), say(2)), row(ASK, ASK), asked=[7, 8])
        told = [hall.turn(number_of_it) for number_of_it in (0, 2, 1, 1, 2, 0)]
        self.assertEqual(told, [("write", "a", 1), ("ask", 7), ("say", 1), ("say", 2), ("ask", 8), ("write", "a", 2)])
        self.assertEqual((hall.going(), hall.worth(0), hall.worth(1), hall.worth(2)), ([], 2, 2, 8))


class Refusals(HallTests):
    def test_a_number_that_no_deed_has(self):
        for hall, count in ((self.hall(), 0), (self.hall(say(1)), 1), (self.hall(ONE, say(1), read("a")), 3)):
            for number_of_it in (-1, -2, -3, -count, -count - 1, count, count + 1, 1000):
                if not 0 <= number_of_it < count:
                    self.refused(hall, NoDeed, "turn", number_of_it)
                    self.refused(hall, NoDeed, "worth", number_of_it)

    def test_turn_of_one_that_is_done(self):
        hall = self.hall(say(1), ONE, read("a"))
        self.refused(hall, NotDone, "turn", 1)
        hall.turn(0)
        self.refused(hall, NotDone, "turn", 0)
        hall.finish()
        for number_of_it in range(3):
            self.refused(hall, NotDone, "turn", number_of_it)

    def test_worth_of_one_that_is_not_done(self):
        hall = self.hall(("add", read("a"), read("b")), ONE)
        self.refused(hall, NotDone, "worth", 0)
        hall.turn(0)
        self.refused(hall, NotDone, "worth", 0)
        hall.turn(0)
        self.assertEqual((hall.worth(0), hall.worth(1)), (30, 1))

    def test_a_refused_deed_goes_on_nowhere(self):
        hall = self.hall(write("a", 1))
        self.refused(hall, Clash, "begin", row(say(5), ASK, write("a", 2)))
        self.assertEqual((hall.finish(), hall.store(), hall.said()), ([1], (1, 20, 30, 40), []))
        self.assertEqual(hall.begin(ASK), 1)


class Finish(HallTests):
    def deeds(self):
        return (put("a", read("a"), 1), ONE, row(say(1), say(2)), row(ASK, ASK), put("b", read("c"), 2))

    def test_none_some_and_all_done(self):
        for turns in ((), (0,), (2, 2), (3, 0, 4, 2), (0, 0, 0, 2, 2, 3, 3, 4, 4, 4)):
            hall = self.hall(*self.deeds(), asked=[7, 8])
            for number_of_it in turns:
                hall.turn(number_of_it)
            self.assertEqual(hall.finish(), [11, 1, 2, 8, 22])
            self.assertEqual((hall.going(), hall.store(), hall.said()), ([], (11, 22, 30, 40), [1, 2]))
            self.assertEqual([hall.worth(number_of_it) for number_of_it in range(5)], [11, 1, 2, 8, 22])

    def test_again(self):
        hall = self.hall(*self.deeds(), asked=[7, 8])
        told = hall.finish()
        before = all_told(hall)
        self.assertEqual(hall.finish(), told)
        self.assertEqual(all_told(hall), before)

    def test_begin_behind_it(self):
        hall = self.hall(put("a", ASK, 1), say(1), asked=[7, 8])
        self.assertEqual(hall.finish(), [11, 1])
        self.assertEqual(hall.begin(put("a", ASK, 1)), 2)
        self.assertEqual(hall.begin(say(2)), 3)
        self.assertEqual((hall.going(), hall.store(), hall.said()), ([2, 3], (11, 20, 30, 40), [1]))
        self.assertEqual(hall.turn(2), ("ask", 8))
        self.assertEqual(hall.finish(), [11, 1, 12, 2])
        self.assertEqual((hall.store(), hall.said()), ((12, 20, 30, 40), [1, 2]))


class Asks(HallTests):
    def test_several_deeds_share_what_asks_bring(self):
        hall = self.hall(row(ASK, ASK), asked=[5, 6, 7])
        hall.turn(0)
        self.refused(hall, Clash, "begin", ASK)
        hall.turn(0)
        self.assertEqual(hall.begin(ASK), 1)
        self.assertEqual(hall.turn(1), ("ask", 7))
        self.assertEqual(hall.begin(row(ASK, ASK)), 2)
        self.assertEqual((hall.turn(2), hall.finish()), (("ask", 0), [6, 7, 0]))

    def test_a_refusal_asks_nothing(self):
        hall = self.hall(say(1), asked=[5, 6])
        self.refused(hall, Clash, "begin", ("say", ASK))
        self.refused(hall, NoDeed, "turn", 1)
        hall.turn(0)
        self.refused(hall, NotDone, "turn", 0)
        hall.begin(ASK)
        self.assertEqual(hall.turn(1), ("ask", 5))


class ApartAndKept(HallTests):
    def test_two_halls_at_once(self):
        deed = put("a", ("say", ASK), 1)
        asked = [5, 6]
        one, other = Hall((), STORE, asked), Hall((), STORE, asked)
        one.begin(deed)
        one.turn(0)
        self.assertEqual((other.going(), other.said()), ([], []))
        self.refused(other, NoDeed, "turn", 0)
        other.begin(ONE)
        self.assertEqual(other.begin(deed), 1)
        self.assertEqual(other.turn(1), ("ask", 5))
        self.assertEqual(one.finish(), [11])
        self.assertEqual((other.going(), other.store(), other.said()), ([1], STORE, []))
        self.assertEqual((other.finish(), other.store(), other.said()), ([1, 11], (11, 20, 30, 40), [5]))
        self.assertEqual(asked, [5, 6])

    def test_the_list_of_asked_is_not_kept_nor_changed(self):
        asked = [5, 6]
        hall = Hall((), STORE, asked)
        asked.insert(0, 9)
        hall.begin(ASK)
        self.assertEqual(hall.turn(0), ("ask", 5))
        self.assertEqual(asked, [9, 5, 6])

    def test_told_lists_are_new_ones(self):
        hall = self.hall(say(1), read("a"), ONE)
        hall.begin(ASK)
        for told in (hall.going, lambda: hall.waits_for(row(write("a", 1), say(1))), hall.said, hall.finish, hall.said,
                     hall.going, hall.finish):
            first = told()
            kept = list(first)
            first.append(99)
            first.reverse()
            self.assertEqual(told(), kept)
            first.clear()
            self.assertEqual(told(), kept)

    def test_store_and_said_behind_each_step(self):
        hall = self.hall(row(write("a", 1), say(1), write("a", 2), say(2)), write("b", 5))
        seen = [(hall.store()[:2], hall.said())]
        for number_of_it in (0, 0, 1, 0, 0):
            hall.turn(number_of_it)
            seen.append((hall.store()[:2], hall.said()))
        self.assertEqual(seen, [((10, 20), []), ((1, 20), []), ((1, 20), [1]), ((1, 5), [1]), ((2, 5), [1]),
                                ((2, 5), [1, 2])])

    def test_what_is_handed_in_stays_as_it_was(self):
        rules, deed, store, asked = RULES, ("call", 1, (("say", ASK),), (put("a", ASK, 1),)), STORE, [3, 4, 5]
        before = copy.deepcopy((rules, deed, store, asked))
        hall = Hall(rules, store, asked)
        hall.begin(deed)
        hall.waits_for(deed)
        hall.turn(0)
        hall.finish()
        self.assertEqual((rules, deed, store, asked), before)


class ManyDeeds(HallTests):
    def test_far_more_than_sixty(self):
        hall = self.hall(chain(3001), comb(3001), ("write", "a", comb(3001)))
        self.assertEqual((hall.going(), hall.worth(1)), ([0, 2], 1501 % 1009))
        self.assertEqual(hall.waits_for(("write", "a", chain(3001))), [0, 2])
        self.refused(hall, Clash, "begin", chain(3001))
        for _ in range(3000):
            self.assertEqual(hall.turn(0), ("say", 1))
        self.assertEqual((hall.going(), hall.begin(chain(3001))), ([2], 3))
        self.assertEqual((hall.finish(), hall.said()), ([1, 492, 492, 1], [1] * 6000))

    def test_many_of_them(self):
        hall = self.hall(*[read("a")] * 300)
        for number_of_it in range(0, 300, 2):
            hall.turn(number_of_it)
        self.assertEqual(hall.going(), list(range(1, 300, 2)))
        self.assertEqual(hall.finish(), [10] * 300)


class ChanceHalls(HallTests):
    def play(self, chance, rules, store, asked):
        """Begins, turns and refusals by chance, beside a second way to run; tells the deeds that began."""
        hall, plain, deeds, left = Hall(rules, store, list(asked)), PlainRun(rules, [], store, asked), [], {}
        for _ in range(40):
            step = chance.chance.choice(["begin", "begin", "turn", "turn", "turn", "look"])
            if step == "begin":
                deed = chance.deed(rules, (), chance.chance.choice([1, 2, 3]))
                waits = [each for each in sorted(left) if not may_go(rules, deeds[each], deed)]
                self.assertEqual(hall.waits_for(deed), waits)
                if waits:
                    self.refused(hall, Clash, "begin", deed)
                else:
                    self.assertEqual(hall.begin(deed), len(deeds))
                    self.joins(plain, rules, deed)
                    deeds.append(deed)
                    self.settle(plain, left, len(deeds) - 1)
            elif step == "turn":
                which = chance.chance.randrange(-1, len(deeds) + 1)
                if not 0 <= which < len(deeds):
                    self.refused(hall, NoDeed, "turn", which)
                elif which not in left:
                    self.refused(hall, NotDone, "turn", which)
                else:
                    touch = self.touch(plain, left, which)
                    self.assertEqual(hall.turn(which), touch)
                    self.settle(plain, left, which)
            self.assertEqual(hall.going(), sorted(left))
            self.assertEqual(hall.store(), tuple(plain.store[shelf] for shelf in "abcd"))
            self.assertEqual(hall.said(), plain.said)
            for each in range(len(deeds)):
                if each in left:
                    self.refused(hall, NotDone, "worth", each)
                else:
                    self.assertEqual(hall.worth(each), plain.worths[each])
        return hall, deeds

    def joins(self, plain, rules, deed):
        joining = PlainRun(rules, [deed], (0, 0, 0, 0), [])
        plain.ways.extend(joining.ways)
        plain.brought.append(None)

    def settle(self, plain, left, which):
        """Looks ahead: the touch to come is kept, not done; one without is done."""
        left.pop(which, None)
        try:
            left[which] = plain.ways[which].send(plain.brought[which])
        except StopIteration as end:
            plain.worths[which] = end.value

    def touch(self, plain, left, which):
        # The plain run does a touch that its way hands out: here it was handed out already.
        way, ahead = plain.ways[which], left[which]
        plain.ways[which] = Handing(ahead)
        plain.turn(which)
        plain.ways[which] = way
        return plain.touches[-1]

    def test_beside_a_second_way(self):
        refused = 0
        for seed in range(150):
            chance = Chance(seed)
            rules, store, asked = chance.rules(), chance.store(), chance.asked()
            hall, deeds = self.play(chance, rules, store, asked)
            told = run_all(rules, deeds, store, asked)
            self.assertEqual((hall.finish(), hall.store(), hall.said()), told[:3])
            refused += len(deeds) < 10
        self.assertGreater(refused, 10)


class Handing:
    def __init__(self, touch):
        self.touch = touch

    def send(self, brought):
        return self.touch


if __name__ == "__main__":
    unittest.main()
