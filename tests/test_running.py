import copy
import itertools
import unittest

from shelfwork.deeds import is_deed, is_rules, size_of
from shelfwork.running import run, run_all, run_by, trace
from helper import FIFTEEN, ONE, RULES, Chance, PlainRun, chain, name, number, put, read, row, say, write

STORE = (10, 20, 30, 40)


class Running(unittest.TestCase):
    def comes_to(self, deed, worth, said=(), store=STORE, rules=(), asked=(), asks=0):
        self.assertTrue(is_rules(rules), rules)
        self.assertTrue(is_deed(rules, deed), deed)
        self.assertEqual(run(rules, deed, STORE, list(asked)), (worth, store, list(said), asks), deed)


class EachOfTheFifteen(Running):
    def test_number(self):
        for worth in (0, 1, 1008):
            self.comes_to(number(worth), worth)

    def test_name(self):
        self.comes_to(("let", "x", number(7), name("x")), 7)

    def test_read(self):
        for shelf, worth in zip("abcd", STORE):
            self.comes_to(read(shelf), worth)

    def test_write(self):
        self.comes_to(write("a", 1), 1, store=(1, 20, 30, 40))
        self.comes_to(write("b", 0), 0, store=(10, 0, 30, 40))
        self.comes_to(write("c", 1008), 1008, store=(10, 20, 1008, 40))
        self.comes_to(("write", "d", read("a")), 10, store=(10, 20, 30, 10))
        self.comes_to(("then", write("a", 5), read("a")), 5, store=(5, 20, 30, 40))

    def test_add(self):
        cases = ((0, 0, 0), (1, 2, 3), (1007, 1, 1008), (1008, 0, 1008), (1008, 1, 0), (1, 1008, 0), (1008, 1008, 1007),
                 (500, 510, 1), (500, 509, 0), (500, 508, 1008))
        for one, other, worth in cases:
            self.comes_to(("add", number(one), number(other)), worth)

    def test_less(self):
        cases = ((0, 0, 0), (0, 1, 1), (1, 0, 0), (1008, 1008, 0), (1007, 1008, 1), (1008, 1007, 0), (0, 1008, 1))
        for one, other, worth in cases:
            self.comes_to(("less", number(one), number(other)), worth)
        self.assertIs(type(run((), ("less", number(0), number(1)), STORE, [])[0]), int)

    def test_then(self):
        self.comes_to(("then", say(1), say(2)), 2, said=[1, 2])

    def test_if(self):
        for test, worth in ((0, 6), (1, 5), (2, 5), (4, 5), (1008, 5)):
            self.comes_to(("if", number(test), say(5), say(6)), worth, said=[worth])

    def test_loop(self):
        for count, often in ((0, 0), (1, 1), (2, 2), (3, 3), (4, 0), (5, 1), (6, 2), (7, 3), (8, 0), (1007, 3), (1008, 0)):
            self.comes_to(("loop", number(count), say(9)), 0, said=[9] * often)

    def test_loop_reckons_how_often_once(self):
        deed = ("loop", ("say", read("a")), write("a", 0))
        self.comes_to(deed, 0, said=[10], store=(0, 20, 30, 40))
        self.comes_to(("loop", number(3), put("a", number(0), 1)), 0, store=(13, 20, 30, 40))

    def test_loops_in_loops(self):
        self.comes_to(("loop", number(3), ("loop", number(2), say(1))), 0, said=[1] * 6)

    def test_let(self):
        self.comes_to(("let", "x", ("say", number(7)), ("add", name("x"), name("x"))), 14, said=[7])

    def test_own(self):
        deed = ("own", "p", number(7), row(("say", read("p")), write("p", 8), ("add", read("p"), number(100))))
        self.comes_to(deed, 108, said=[7])
        self.comes_to(("own", "p", number(7), write("p", 1008)), 1008)

    def test_say(self):
        self.comes_to(("say", ("say", number(4))), 4, said=[4, 4])

    def test_ask(self):
        self.comes_to(("ask",), 5, asked=[5, 6], asks=1)

    def test_do_and_call(self):
        self.comes_to(("call", 0, (), ()), 5, rules=RULES)
        self.comes_to(("call", 1, (number(8),), (say(3),)), 8, said=[3], rules=RULES)

    def test_a_handed_deed_is_run_as_often_as_it_is_done(self):
        for often in range(4):
            rules = (((), ("f",), ("loop", number(often), ("do", "f"))),)
            self.comes_to(("call", 0, (), (say(1),)), 0, said=[1] * often, rules=rules)

    def test_a_do_brings_what_the_handed_deed_comes_to(self):
        rules = (((), ("f", "g"), ("add", ("do", "g"), ("say", ("do", "f")))),)
        self.comes_to(("call", 0, (), (number(3), read("d"))), 43, said=[3], rules=rules)


class FromLeftToRight(Running):
    def test_parts_in_their_order(self):
        rules = ((("x", "y"), (), ("say", number(9))),)
        cases = ((("add", say(1), say(2)), 3, [1, 2]), (("less", say(2), say(1)), 0, [2, 1]),
                 (("then", say(2), say(1)), 1, [2, 1]), (("if", say(1), say(2), say(3)), 2, [1, 2]),
                 (("if", say(0), say(2), say(3)), 3, [0, 3]), (("loop", say(2), say(5)), 0, [2, 5, 5]),
                 (("let", "x", say(1), say(2)), 2, [1, 2]), (("own", "p", say(1), say(2)), 2, [1, 2]),
                 (("say", say(1)), 1, [1, 1]), (("call", 0, (say(1), say(2)), ()), 9, [1, 2, 9]),
                 (("add", ("add", say(1), say(2)), ("add", say(3), say(4))), 10, [1, 2, 3, 4]))
        for deed, worth, said in cases:
            self.comes_to(deed, worth, said=said, rules=rules)

    def test_a_write_runs_its_part_first(self):
        self.comes_to(("write", "a", ("add", read("a"), write("a", 1))), 11, store=(11, 20, 30, 40))

    def test_names_are_given_in_their_order(self):
        rules = ((("x", "y"), ("f", "g"), row(("say", name("x")), ("say", name("y")), ("do", "f"), ("do", "g"))),)
        self.comes_to(("call", 0, (number(1), number(2)), (say(3), say(4))), 4, said=[1, 2, 3, 4], rules=rules)
        turned = ((("y", "x"), ("g", "f"), rules[0][2]),)
        self.comes_to(("call", 0, (number(1), number(2)), (say(3), say(4))), 3, said=[2, 1, 4, 3], rules=turned)

    def test_worths_are_reckoned_once_and_ahead_of_the_body(self):
        rules = ((("x",), (), row(write("a", 1), ("add", name("x"), name("x")))),)
        self.comes_to(("call", 0, (("say", read("a")),), ()), 20, said=[10], store=(1, 20, 30, 40), rules=rules)

    def test_a_handed_deed_is_reckoned_when_it_is_done(self):
        rules = (((), ("f",), row(write("a", 1), ("do", "f"))),)
        self.comes_to(("call", 0, (), (read("a"),)), 1, store=(1, 20, 30, 40), rules=rules)
        rules = (((), ("f",), number(2)),)
        self.comes_to(("call", 0, (), (say(1),)), 2, rules=rules)


class NamesWithinOthers(Running):
    def test_the_inner_let_holds_in_its_body_alone(self):
        inner = ("let", "x", ("add", name("x"), number(1)), ("say", name("x")))
        self.comes_to(("let", "x", number(5), ("then", inner, ("say", name("x")))), 5, said=[6, 5])

    def test_lets_of_other_names(self):
        deed = ("let", "x", number(1), ("let", "x0", number(2), ("let", "y", number(3), row(
            ("say", name("x")), ("say", name("x0")), ("say", name("y"))))))
        self.comes_to(deed, 3, said=[1, 2, 3])

    def test_the_inner_own_holds_in_its_body_alone(self):
        inner = ("own", "p", ("add", read("p"), number(1)), row(write("p", 70), ("say", read("p"))))
        self.comes_to(("own", "p", number(5), ("then", inner, ("say", read("p")))), 5, said=[70, 5])

    def test_an_outer_own_shelf_is_written_from_within(self):
        deed = ("own", "p", number(1), ("own", "q", number(2), row(write("p", 3), write("q", 4), ("say", read("q")),
                                                                   ("say", read("p")))))
        self.comes_to(deed, 3, said=[4, 3])

    def test_own_shelves_are_written_across_parts(self):
        deed = ("own", "p", number(0), ("then", ("loop", number(3), put("p", number(0), 2)), read("p")))
        self.comes_to(deed, 6)

    def test_a_new_own_shelf_each_time(self):
        once = ("own", "p", number(1), ("say", put("p", number(0), 1)))
        self.comes_to(("loop", number(3), once), 0, said=[2, 2, 2])
        rules = (((), (), once),)
        call = ("call", 0, (), ())
        self.comes_to(("then", call, call), 2, said=[2, 2], rules=rules)

    def test_a_name_keeps_the_worth_that_it_was_given(self):
        deed = ("let", "x", read("a"), ("then", write("a", 1), name("x")))
        self.comes_to(deed, 10, store=(1, 20, 30, 40))


class WhatAHandedDeedKnows(Running):
    # Each rule makes a like name known around the do.
    ANOTHER_X = (("x",), ("f",), ("add", ("do", "f"), name("x")))
    LET_X = ((), ("f",), ("let", "x", number(500), ("do", "f")))
    OWN_P = ((), ("f",), ("own", "p", number(500), ("then", ("do", "f"), ("say", read("p")))))

    def test_its_names_where_the_rule_has_a_like_name(self):
        deed = ("let", "x", number(3), ("call", 0, (number(100),), (name("x"),)))
        self.comes_to(deed, 103, rules=(self.ANOTHER_X,))

    def test_its_names_where_the_body_lets_a_like_name(self):
        deed = ("let", "x", number(3), ("call", 0, (), (name("x"),)))
        self.comes_to(deed, 3, rules=(self.LET_X,))

    def test_its_own_shelves_where_the_body_has_a_like_one(self):
        deed = ("own", "p", number(3), ("then", ("call", 0, (), (put("p", number(0), 1),)), ("say", read("p"))))
        self.comes_to(deed, 4, said=[500, 4], rules=(self.OWN_P,))

    def test_the_names_known_where_it_was_handed_not_later(self):
        deed = ("let", "x", number(3), ("call", 0, (), (("let", "x", number(4), name("x")),)))
        self.comes_to(deed, 4, rules=(self.LET_X,))

    def test_what_a_handed_deed_writes_on_own_shelves_stays(self):
        rules = (((), ("f",), ("loop", number(3), ("do", "f"))),)
        deed = ("own", "q", number(1), ("then", ("call", 0, (), (put("q", number(0), 5),)), read("q")))
        self.comes_to(deed, 16, rules=rules)

    def test_a_rule_hands_its_handed_deed_on(self):
        last = ((), ("f",), ("then", ("do", "f"), ("do", "f")))
        middle = ((), ("f",), ("call", 0, (), (("do", "f"),)))
        self.comes_to(("call", 1, (), (say(7),)), 7, said=[7, 7], rules=(last, middle))

    def test_a_rule_hands_it_on_through_all_four(self):
        rules = (((), ("f",), ("do", "f")),)
        for lesser in range(3):
            rules += (((), ("f",), ("call", lesser, (), (("add", ("do", "f"), ("say", number(lesser))),))),)
        self.comes_to(("call", 3, (), (read("a"),)), 13, said=[2, 1, 0], rules=rules)

    def test_a_rule_hands_its_handed_deeds_on_crossed(self):
        last = ((), ("f", "g"), row(("do", "f"), ("do", "g")))
        middle = ((), ("f", "g"), ("call", 0, (), (("do", "g"), ("do", "f"))))
        self.comes_to(("call", 1, (), (say(1), say(2))), 1, said=[2, 1], rules=(last, middle))

    def test_a_rule_hands_on_its_names_and_own_shelves(self):
        last = (("x",), ("f",), ("own", "p", number(900), ("let", "y", number(800), ("add", ("do", "f"), name("x")))))
        middle = (("x", "y"), (), ("own", "p", number(4), ("call", 0, (number(1),), (
            ("add", ("add", name("x"), name("y")), read("p")),))))
        self.comes_to(("call", 1, (number(20), number(300)), ()), 325, rules=(last, middle))

    def test_each_handing_has_what_was_known_then(self):
        rules = (((), ("f",), ("do", "f")),)
        deed = ("own", "p", number(0), ("loop", number(3), ("let", "x", put("p", number(0), 1), (
            "call", 0, (), (("say", name("x")),)))))
        self.comes_to(deed, 0, said=[1, 2, 3], rules=rules)

    def test_a_handed_deed_with_a_call_in_it(self):
        rules = ((("x",), ("f",), ("add", name("x"), ("do", "f"))),)
        inner = ("call", 0, (name("x"),), (("add", name("x"), number(1)),))
        deed = ("let", "x", number(5), ("call", 0, (number(100),), (inner,)))
        self.comes_to(deed, 111, rules=rules)


class Asking(Running):
    def test_asks_in_their_order_and_behind_the_last(self):
        deed = ("loop", number(3), ("say", ("ask",)))
        for asked in ([], [5], [5, 6], [5, 6, 7], [5, 6, 7, 8]):
            said = (asked + [0, 0, 0])[:3]
            self.comes_to(deed, 0, said=said, asked=asked, asks=3)

    def test_none_asked(self):
        self.comes_to(number(1), 1, asked=[5, 6], asks=0)

    def test_asks_within_rules_and_handed_deeds(self):
        rules = (((), ("f",), ("add", ("ask",), ("do", "f"))),)
        self.comes_to(("call", 0, (), (("say", ("ask",)),)), 12, said=[7], asked=[5, 7], asks=2, rules=rules)


class RunAndTrace(Running):
    def test_the_four_answers_of_run(self):
        deed = row(write("b", 1), say(2), ("say", ("ask",)), ("add", ("ask",), ("ask",)))
        self.assertEqual(run((), deed, STORE, [3, 4]), (4, (10, 1, 30, 40), [2, 3], 3))

    def test_the_four_touches(self):
        deed = row(("write", "b", ("add", read("a"), number(1))), ("say", read("b")), ("ask",), ("say", ("ask",)))
        self.assertEqual(trace((), deed, STORE, [6]), [
            ("read", "a", 10), ("write", "b", 11), ("read", "b", 11), ("say", 11), ("ask", 6), ("ask", 0), ("say", 0)])

    def test_all_four_shelves(self):
        for shelf, worth in zip("abcd", STORE):
            self.assertEqual(trace((), read(shelf), STORE, []), [("read", shelf, worth)])
            self.assertEqual(trace((), write(shelf, 3), STORE, []), [("write", shelf, 3)])

    def test_no_touches(self):
        self.assertEqual(trace((), number(1), STORE, [1]), [])

    def test_none_of_own_shelves(self):
        deed = ("own", "p", read("a"), row(write("p", 1), ("write", "b", read("p")), ("own", "q2", number(3), row(
            ("write", "q2", read("p")), read("q2"), ("say", read("q2"))))))
        self.assertEqual(trace((), deed, STORE, []), [("read", "a", 10), ("write", "b", 1), ("say", 1)])

    def test_only_touches_that_it_comes_to(self):
        self.assertEqual(trace((), ("if", number(0), say(1), say(2)), STORE, []), [("say", 2)])
        self.assertEqual(trace((), ("loop", number(4), say(1)), STORE, []), [])
        self.assertEqual(trace((), ("loop", number(2), write("a", 1)), STORE, []), [("write", "a", 1)] * 2)

    def test_touches_of_rules_and_handed_deeds(self):
        rules = ((("x",), ("f",), row(("do", "f"), ("write", "c", name("x")), ("do", "f"))),)
        deed = ("call", 0, (read("d"),), (("say", read("c")),))
        self.assertEqual(trace(rules, deed, STORE, []), [
            ("read", "d", 40), ("read", "c", 30), ("say", 30), ("write", "c", 40), ("read", "c", 40), ("say", 40)])

    def test_more_deeds_than_sixty(self):
        self.assertEqual(run((), chain(5000), STORE, []), (1, STORE, [1] * 4999, 0))
        self.assertEqual(trace((), chain(5000), STORE, []), [("say", 1)] * 4999)
        deep = number(0)
        for _ in range(3000):
            deep = ("let", "x", ("own", "p", deep, read("p")), ("add", name("x"), number(1)))
        self.assertEqual(run((), deep, STORE, [])[0], 3000 % 1009)
        self.assertEqual(run_by((), [deep, chain(100)], STORE, [], [0, 1])[0], [3000 % 1009, 1])


class RunAll(Running):
    def test_no_deeds(self):
        self.assertEqual(run_all((), [], STORE, [1]), ([], STORE, [], 0))

    def test_one_deed(self):
        deed = row(write("b", 1), ("say", ("ask",)))
        self.assertEqual(run_all((), [deed], STORE, [3]), ([3], (10, 1, 30, 40), [3], 1))

    def test_several_one_behind_the_other(self):
        deeds = [put("a", say(1), 1), ("say", ("add", read("a"), ("ask",))), put("a", ("ask",), 5), ("ask",), number(8)]
        self.assertEqual(run_all((), deeds, STORE, [100, 200]), ([11, 111, 16, 0, 8], (16, 20, 30, 40), [1, 111], 3))

    def test_each_deed_has_its_own_shelves_anew(self):
        deed = ("own", "p", number(1), put("p", number(0), 1))
        self.assertEqual(run_all((), [deed, deed], STORE, [])[0], [2, 2])

    def test_by_rules(self):
        call = ("call", 1, (read("a"),), (put("a", number(0), 1),))
        self.assertEqual(run_all(RULES, [call, call], STORE, []), ([10, 11], (12, 20, 30, 40), [], 0))


class RunBy(Running):
    # Two touches each, a read and a write, of the same shelf.
    ONE_MORE = ("write", "a", ("add", read("a"), number(1)))
    FIVE_MORE = ("write", "a", ("add", read("a"), number(5)))

    def by(self, deeds, turns, asked=()):
        return run_by((), deeds, STORE, list(asked), turns)

    def test_no_turns(self):
        self.assertEqual(self.by([self.ONE_MORE, self.FIVE_MORE], []), ([11, 16], (16, 20, 30, 40), [], 0))

    def test_no_deeds(self):
        self.assertEqual(self.by([], []), ([], STORE, [], 0))

    def test_to_and_fro(self):
        both = [self.ONE_MORE, self.FIVE_MORE]
        self.assertEqual(self.by(both, [0, 1, 0, 1])[:2], ([11, 15], (15, 20, 30, 40)))
        self.assertEqual(self.by(both, [0, 1, 1, 0])[:2], ([11, 15], (11, 20, 30, 40)))
        self.assertEqual(self.by(both, [1, 0, 0, 1])[:2], ([11, 15], (15, 20, 30, 40)))
        self.assertEqual(self.by(both, [1, 1, 0, 0])[:2], ([16, 15], (16, 20, 30, 40)))
        self.assertEqual(self.by(both, [0, 0, 1, 1])[:2], ([11, 16], (16, 20, 30, 40)))

    def test_fewer_turns_than_touches(self):
        both = [self.ONE_MORE, self.FIVE_MORE]
        self.assertEqual(self.by(both, [1])[:2], ([11, 15], (15, 20, 30, 40)))
        self.assertEqual(self.by(both, [1, 1])[:2], ([16, 15], (16, 20, 30, 40)))
        self.assertEqual(self.by(both, [0])[:2], ([11, 16], (16, 20, 30, 40)))
        self.assertEqual(self.by(both, [1, 0])[:2], ([11, 15], (15, 20, 30, 40)))

    def test_behind_all_turns_one_behind_the_other(self):
        deeds = [row(say(1), say(2)), row(say(3), say(4)), row(say(5), say(6))]
        self.assertEqual(self.by(deeds, [2, 1])[2], [5, 3, 1, 2, 4, 6])
        self.assertEqual(self.by(deeds, [])[2], [1, 2, 3, 4, 5, 6])

    def test_turns_of_a_deed_that_is_done(self):
        deeds = [say(1), row(say(2), say(3)), number(4)]
        self.assertEqual(self.by(deeds, [0, 0, 0, 0, 1, 0, 2, 2, 2, 1, 1, 1, 2]), ([1, 3, 4], STORE, [1, 2, 3], 0))
        self.assertEqual(self.by(deeds, [1, 2, 2, 0, 0, 0, 1]), ([1, 3, 4], STORE, [2, 1, 3], 0))

    def test_a_turn_is_one_touch_of_each_sort(self):
        deed = row(read("a"), write("b", 1), say(2), ("ask",), say(3))
        other = row(say(91), say(92), say(93), say(94), say(95))
        for turns in range(6):
            said = self.by([other, deed], [1] * turns)[2]
            first = [2] * (turns >= 3) + [3] * (turns >= 5)
            rest = [2] * (turns < 3) + [3] * (turns < 5)
            self.assertEqual(said, first + [91, 92, 93, 94, 95] + rest, turns)

    def test_what_is_no_touch_takes_no_turn(self):
        deed = ("own", "p", number(1), row(write("p", 2), ("loop", number(3), put("p", number(0), 1)), say(7),
                                           read("p"), say(8)))
        self.assertEqual(self.by([deed, say(1)], [0, 0, 1])[2], [7, 8, 1])
        self.assertEqual(self.by([deed, say(1)], [0, 1, 0])[2], [7, 1, 8])

    def test_a_read_is_done_at_its_turn(self):
        reader = ("say", read("a"))
        self.assertEqual(self.by([reader, write("a", 1)], [0, 1, 0])[2], [10])
        self.assertEqual(self.by([reader, write("a", 1)], [1, 0, 0])[2], [1])
        self.assertEqual(self.by([reader, write("a", 1)], [1])[2], [1])

    def test_asks_go_to_whoever_asks(self):
        asker = ("add", ("ask",), ("ask",))
        self.assertEqual(self.by([asker, asker], [0, 1, 1, 0], [1, 2, 4, 8]), ([9, 6], STORE, [], 4))
        self.assertEqual(self.by([asker, asker], [1, 1], [1, 2, 4]), ([4, 3], STORE, [], 4))

    def test_own_shelves_and_names_of_deeds_are_apart(self):
        def counter(first):
            return ("let", "x", number(first), ("own", "p", name("x"), row(
                ("loop", number(3), ("say", put("p", number(0), 1))), ("add", read("p"), name("x")))))
        told = self.by([counter(100), counter(200)], [0, 1, 1, 0, 0, 1])
        self.assertEqual(told, ([203, 403], STORE, [101, 201, 202, 102, 103, 203], 0))

    def test_the_same_rules_and_handed_deeds_in_turns(self):
        rules = ((("x",), ("f",), row(("say", name("x")), ("do", "f"), ("say", name("x")))),)
        deeds = [("call", 0, (number(worth),), (say(worth + 5),)) for worth in (1, 2)]
        self.assertEqual(run_by(rules, deeds, STORE, [], [1, 0, 1, 0, 1, 0])[2], [2, 1, 7, 6, 2, 1])

    def test_turns_of_no_deed_do_nothing(self):
        self.assertEqual(self.by([say(1), say(2), say(3)], [3, -1, 1, 7])[2], [2, 1, 3])


class BesideASecondWay(unittest.TestCase):
    """Chance deeds come to the same by the plain way of the helper."""

    def setting(self, seed):
        chance = Chance(seed)
        rules = chance.rules()
        deeds = [chance.deed(rules, (), 4) for _ in range(3)]
        return rules, deeds, chance.store(), chance.asked(), chance.turns(3)

    def test_run_and_trace(self):
        words = {}
        for seed in range(250):
            rules, deeds, store, asked, _ = self.setting(seed)
            for deed in deeds:
                plain = PlainRun(rules, [deed], store, asked)
                worths, *rest = plain.finish()
                self.assertEqual(run(rules, deed, store, asked), (worths[0], *rest), (seed, deed))
                self.assertEqual(trace(rules, deed, store, asked), plain.touches, (seed, deed))
                words.update((touch[0], True) for touch in plain.touches)
        self.assertEqual(sorted(words), ["ask", "read", "say", "write"])

    def test_run_all_and_run_by(self):
        for seed in range(250):
            rules, deeds, store, asked, turns = self.setting(seed)
            self.assertEqual(run_all(rules, deeds, store, asked), PlainRun(rules, deeds, store, asked).finish(), seed)
            plain = PlainRun(rules, deeds, store, asked)
            for turn in turns:
                plain.turn(turn)
            self.assertEqual(run_by(rules, deeds, store, asked, turns), plain.finish(), seed)

    def test_trace_tells_what_run_did(self):
        for seed in range(250):
            rules, deeds, store, asked, _ = self.setting(seed)
            worth, behind, said, asks = run(rules, deeds[0], store, asked)
            touches = trace(rules, deeds[0], store, asked)
            shelves = dict(zip("abcd", store))
            shelves.update((touch[1], touch[2]) for touch in touches if touch[0] == "write")
            self.assertEqual(tuple(shelves.values()), behind)
            self.assertEqual([touch[1] for touch in touches if touch[0] == "say"], said)
            told = [touch[1] for touch in touches if touch[0] == "ask"]
            self.assertEqual((len(told), told), (asks, (asked + [0] * asks)[:asks]))
            self.assertTrue(0 <= worth <= 1008)


class AnyTurnsOfDeedsApart(unittest.TestCase):
    def test_all_turns_come_to_the_same(self):
        deeds = [put("a", ("ask",), 1), put("b", read("d"), 2), row(say(1), read("d"), say(2))]
        expected = run_all((), deeds, STORE, [5])
        turns = [0] * 3 + [1] * 3 + [2] * 3
        for order in sorted(set(itertools.permutations(turns))):
            self.assertEqual(run_by((), deeds, STORE, [5], list(order)), expected, order)


class HandedInAndTold(unittest.TestCase):
    def test_what_is_handed_in_stays_as_it_was(self):
        for seed in range(60):
            chance = Chance(seed)
            rules = chance.rules()
            deeds = [chance.deed(rules, (), 3) for _ in range(3)] + [row(write("a", 1), ("ask",), say(1))]
            store, asked, turns = chance.store(), chance.asked(), chance.turns(4)
            before = copy.deepcopy((rules, deeds, store, asked, turns))
            for deed in deeds:
                run(rules, deed, store, asked)
                trace(rules, deed, store, asked)
                is_deed(rules, deed)
                size_of(deed)
            is_rules(rules)
            run_all(rules, deeds, store, asked)
            run_by(rules, deeds, store, asked, turns)
            self.assertEqual((rules, deeds, store, asked, turns), before)

    def test_told_lists_are_new_ones(self):
        deed = row(say(1), ("say", ("ask",)))
        asked = [2]
        for tell in (lambda: run((), deed, STORE, asked)[2], lambda: trace((), deed, STORE, asked),
                     lambda: run_all((), [deed], STORE, asked)[0], lambda: run_all((), [deed], STORE, asked)[2],
                     lambda: run_by((), [deed], STORE, asked, [0])[0],
                     lambda: run_by((), [deed], STORE, asked, [0])[2]):
            told = tell()
            before = list(told)
            told.append(99)
            told[0] = 77
            self.assertEqual(tell(), before)
            self.assertEqual(asked, [2])

    def test_told_lists_are_new_ones_where_they_have_none(self):
        for tell in (lambda: run((), ONE, STORE, [])[2], lambda: trace((), ONE, STORE, []),
                     lambda: run_all((), [], STORE, [])[0], lambda: run_by((), [], STORE, [], [])[2]):
            tell().append(1)
            self.assertEqual(tell(), [])

    def test_nothing_is_kept_from_run_to_run(self):
        deed = row(put("a", ("ask",), 1), ("own", "p", number(1), ("say", put("p", number(0), 1))))
        self.assertEqual(run((), deed, STORE, [3]), run((), deed, STORE, [3]))

    def test_fifteen_tuples_are_all_run(self):
        rules = RULES + ((("x",), ("f",), ("own", "p", ONE, row(*FIFTEEN.values()))),)
        deed = ("call", 2, (number(9),), (say(6),))
        told = trace(rules, deed, STORE, [4])
        self.assertEqual(told, [("write", "b", 1), ("say", 1), ("ask", 4), ("say", 6)])
        self.assertEqual(run(rules, deed, STORE, [4]), (1, (10, 1, 30, 40), [1, 6], 1))


if __name__ == "__main__":
    unittest.main()
