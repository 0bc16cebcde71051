import copy
import itertools
import unittest

from shelfwork.deeds import is_deed, is_rules, size_of
from shelfwork.forms import parts_of
from shelfwork.names import is_name, is_own_shelf
from shelfwork.putting import put_in
from shelfwork.running import run, trace
from shelfwork.touches import touches
from helper import FIFTEEN, ONE, RULES, TWO, Chance, PlainRun, chain, comb, name, number, put, read, row, say, write

STORE = (10, 20, 30, 40)
ASK = ("ask",)
DO = ("do", "f")


def deeds_in(deed):
    waiting, found = [deed], []
    while waiting:
        found.append(waiting.pop())
        waiting.extend(parts_of(found[-1]))
    return found


def say_deed(deed):
    return ("say", deed)


def tell(text):
    return ("say", name(text))


def show(shelf):
    return ("say", read(shelf))


class Putting(unittest.TestCase):
    def put(self, rules, deed, stores=(STORE, (0, 1, 2, 3)), asks=([], [7, 0, 3])):
        """What is told, looked at in every way that the document tells."""
        told = put_in(rules, deed)
        self.assertNotIn("call", [each[0] for each in deeds_in(told)], deed)
        self.assertEqual(touches((), told), touches(rules, deed), deed)
        for store, asked in itertools.product(stores, asks):
            self.assertEqual(trace((), told, store, asked), trace(rules, deed, store, asked), (rules, deed))
            self.assertEqual(run((), told, store, asked), run(rules, deed, store, asked), (rules, deed))
        if size_of(told) <= 60:
            self.assertIs(is_deed((), told), True, told)
        return told

    def said(self, rules, deed, *said):
        """What is told says just this; the rules and the deed are such by the document."""
        self.assertTrue(is_rules(rules) and is_deed(rules, deed), deed)
        self.assertEqual(run((), self.put(rules, deed), STORE, [1, 2, 3])[2], list(said))


class WithoutCalls(Putting):
    def test_each_of_the_fourteen_others(self):
        for word, deed in FIFTEEN.items():
            if word not in ("call", "do"):
                whole = ("let", "x", TWO, ("own", "p", ONE, deed))
                self.assertEqual(self.put((), whole), whole)
                self.assertEqual(self.put(RULES, whole), whole)

    def test_names_made_known_again(self):
        deed = ("let", "x", ONE, ("let", "x", ("add", name("x"), ONE), ("add", name("x"), tell("x"))))
        self.put((), deed)
        self.said((), deed, 2)
        self.said((), ("own", "p", ONE, ("own", "p", read("p"), row(write("p", 3), show("p")))), 3)


class NamesAndHandedDeeds(Putting):
    def test_none_to_two_of_each(self):
        for names, handed in itertools.product(((), ("x",), ("x", "y")), ((), ("f",), ("f", "g"))):
            body = row(*[("do", each) for each in handed], *[tell(each) for each in names], number(9))
            rules = ((names, handed, body),)
            worths = (("write", "a", number(5)), ("write", "b", number(6)))[:len(names)]
            parts = (say(7), say(8))[:len(handed)]
            deed = ("call", 0, worths, parts)
            self.said(rules, deed, *[7, 8][:len(handed)], *[5, 6][:len(names)])
            self.assertEqual(run((), put_in(rules, deed), STORE, [])[0], 9)

    def test_each_name_has_its_own_worth(self):
        rules = ((("y", "x"), (), row(tell("x"), tell("y"))),)
        self.said(rules, ("call", 0, (ONE, TWO), ()), 2, 1)

    def test_each_handed_deed_has_its_own_name(self):
        rules = (((), ("g", "f"), row(("do", "f"), ("do", "g"))),)
        self.said(rules, ("call", 0, (), (say(1), say(2))), 2, 1)

    def test_each_rule_by_its_number(self):
        rules = tuple(((), (), say(count)) for count in range(4))
        self.said(rules, row(*[("call", count, (), ()) for count in (2, 0, 3, 1)]), 2, 0, 3, 1)

    def test_a_rule_called_twice_with_unlike_parts(self):
        rules = ((("x",), ("f",), row(DO, tell("x"))),)
        self.said(rules, row(("call", 0, (ONE,), (say(5),)), ("call", 0, (TWO,), (say(6),))), 5, 1, 6, 2)


class CallsWithinOthers(Putting):
    rules = ((("x",), (), tell("x")), (("x",), ("f",), row(DO, say_deed(("add", name("x"), ONE)))))

    def test_within_a_worth(self):
        inner = ("call", 0, (number(4),), ())
        self.said(self.rules, ("call", 0, (inner,), ()), 4, 4)
        self.said(self.rules, ("call", 1, (("call", 1, (inner,), (say(7),)),), (say(8),)), 4, 7, 5, 8, 6)

    def test_within_what_is_handed(self):
        self.said(self.rules, ("call", 1, (ONE,), (("call", 0, (number(4),), ()),)), 4, 2)
        twice = ("call", 1, (TWO,), (("call", 1, (number(4),), (say(7),)),))
        self.said(self.rules, ("call", 1, (ONE,), (twice,)), 7, 5, 3, 2)

    def test_within_a_body(self):
        rules = self.rules + ((("x",), (), ("call", 1, (name("x"),), (("call", 0, (name("x"),), ()),))),)
        self.said(rules, ("call", 2, (number(4),), ()), 4, 5)

    def test_through_all_four(self):
        rules = (((), (), ASK),)
        for count in range(3):
            rules += (((), (), ("add", say_deed(("call", count, (), ())), ONE)),)
        self.said(rules, ("call", 3, (), ()), 1, 2, 3)

    def test_within_every_part(self):
        call = ("call", 0, (ASK,), ())
        self.said(self.rules, ("if", call, ("loop", call, call), ONE), 1, 2, 3, 0)
        self.said(self.rules, ("let", "x", call, ("add", call, name("x"))), 1, 2)
        self.said(self.rules, ("own", "p", call, ("write", "p", ("less", call, read("p")))), 1, 2)
        self.said(self.rules, ("if", number(0), ONE, ("then", ("say", call), ("write", "a", call))), 1, 1, 2)


class HowOftenItIsDone(Putting):
    def test_once_and_more_than_once(self):
        for often in range(1, 5):
            rules = (((), ("f",), row(*[DO] * often)),)
            self.said(rules, ("call", 0, (), (say_deed(ASK),)), *[1, 2, 3, 0][:often])

    def test_in_a_loop(self):
        rules = ((("x",), ("f",), ("loop", name("x"), DO)),)
        for often in range(4):
            self.said(rules, ("call", 0, (number(often),), (say(5),)), *[5] * often)

    def test_in_an_if(self):
        rules = ((("x",), ("f", "g"), ("if", name("x"), DO, ("do", "g"))),)
        self.said(rules, ("call", 0, (ONE,), (say(5), write("a", 6))), 5)
        self.said(rules, ("call", 0, (number(0),), (say(5), write("a", 6))))

    def test_not_at_all(self):
        rules = (((), ("f",), read("a")),)
        told = self.put(rules, ("call", 0, (), (row(say(5), write("b", 1), ASK),)))
        self.assertEqual(touches((), told), [("read", "a")])

    def test_one_of_two(self):
        rules = (((), ("f", "g"), ("do", "g")),)
        told = self.put(rules, ("call", 0, (), (say(5), ASK)))
        self.assertEqual(touches((), told), [("ask",)])

    def test_where_no_run_comes_to_it_the_marks_stay(self):
        rules = (((), ("f",), ("if", number(0), DO, ONE)),)
        told = self.put(rules, ("call", 0, (), (say(5),)))
        self.assertEqual(touches((), told), [("say",)])


class WorthsFirst(Putting):
    def test_from_left_to_right_ahead_of_the_body(self):
        rules = ((("x", "y"), ("f",), row(DO, tell("y"), tell("x"))),)
        self.said(rules, ("call", 0, (say(1), say(2)), (say(3),)), 1, 2, 3, 2, 1)

    def test_each_once_though_it_is_named_often(self):
        rules = ((("x",), (), say_deed(("add", name("x"), ("add", name("x"), name("x"))))),)
        self.said(rules, ("call", 0, (say_deed(ASK),), ()), 1, 3)

    def test_each_once_though_it_is_not_named(self):
        rules = ((("x", "y"), (), ONE), (("x", "y"), (), name("y")))
        self.said(rules, ("call", 0, (say(1), say(2)), ()), 1, 2)
        self.said(rules, ("call", 1, (say(1), say(2)), ()), 1, 2)
        told = self.put(rules, ("call", 0, (read("a"), ASK), ()))
        self.assertEqual(trace((), told, STORE, [3]), [("read", "a", 10), ("ask", 3)])

    def test_what_the_body_writes_does_not_change_them(self):
        rules = ((("x",), (), row(write("a", 1), tell("x"))),)
        self.said(rules, ("call", 0, (read("a"),), ()), 10)


class LikeNames(Putting):
    # Each name below is given a worth of its own, so that a name that means another one is heard.

    def test_a_worth_that_names_what_the_rule_names(self):
        rules = ((("x",), (), say_deed(("add", name("x"), ONE))), (("y", "x"), (), row(tell("x"), tell("y"))))
        self.said(rules, ("let", "x", number(5), ("call", 0, (name("x"),), ())), 6)
        two = ("let", "x", number(5), ("let", "y", number(7), ("call", 1, (name("x"), name("y")), ())))
        self.said(rules, two, 7, 5)
        crossed = ("let", "x", number(5), ("let", "y", number(7), ("call", 1, (name("y"), name("x")), ())))
        self.said(rules, crossed, 5, 7)

    def test_the_first_name_is_not_known_in_the_second_worth(self):
        rules = ((("x", "y"), (), row(tell("x"), tell("y"))),)
        self.said(rules, ("let", "x", number(5), ("call", 0, (ONE, name("x")), ())), 1, 5)
        worths = (("add", name("x"), ONE), ("add", name("x"), TWO))
        self.said(rules, ("let", "x", number(5), ("call", 0, worths, ())), 6, 7)

    def test_a_worth_that_names_what_a_let_of_the_body_names(self):
        rules = ((("x",), (), ("let", "y", ONE, row(tell("x"), tell("y")))),)
        self.said(rules, ("let", "y", number(5), ("call", 0, (name("y"),), ())), 5, 1)
        again = ((("x",), (), ("let", "x", ("add", name("x"), ONE), tell("x"))),)
        self.said(again, ("let", "x", number(5), ("call", 0, (("add", name("x"), TWO),), ())), 8)

    def test_the_names_behind_the_call_are_as_ahead(self):
        rules = ((("x",), (), name("x")),)
        self.said(rules, ("let", "x", number(5), row(("call", 0, (ONE,), ()), tell("x"))), 5)

    def test_a_handed_name_beside_a_let_of_the_body(self):
        rules = (((), ("f",), ("let", "x", ONE, row(DO, tell("x")))),)
        self.said(rules, ("let", "x", number(5), ("call", 0, (), (tell("x"),))), 5, 1)

    def test_a_handed_name_beside_a_name_of_the_rule(self):
        rules = ((("x",), ("f",), row(DO, tell("x"))),)
        self.said(rules, ("let", "x", number(5), ("call", 0, (ONE,), (tell("x"),))), 5, 1)

    def test_a_handed_own_shelf_beside_one_of_the_body(self):
        rules = (((), ("f",), ("own", "p", ONE, row(DO, show("p"), write("p", 2), DO, show("p")))),)
        handed = ("write", "p", say_deed(("add", read("p"), number(10))))
        self.said(rules, ("own", "p", number(5), row(("call", 0, (), (handed,)), show("p"))), 15, 1, 25, 2, 25)

    def test_a_handed_deed_with_lets_and_owns_within(self):
        rules = ((("x",), ("f",), ("own", "p", name("x"), row(DO, show("p"), tell("x")))),)
        handed = ("let", "x", number(8), ("own", "p", name("x"), row(write("p", 9), tell("x"), show("p"))))
        self.said(rules, ("call", 0, (ONE,), (handed,)), 8, 9, 1, 1)

    def test_the_name_that_would_be_next_is_known_too(self):
        rules = (((), ("f",), ("let", "x", ONE, ("let", "x0", TWO, row(DO, tell("x"), tell("x0"))))),)
        handed = row(*[tell(each) for each in ("x", "x0", "y0", "z0")])
        deed = ("call", 0, (), (handed,))
        for worth, each in enumerate(("x", "x0", "y0", "z0")):
            deed = ("let", each, number(worth + 5), deed)
        self.said(rules, deed, 5, 6, 7, 8, 1, 2)

    def test_for_each_letter_names_that_would_be_next_are_known_too(self):
        for letter, word, of_it in [(each, "let", "name") for each in "xyz"] + [(each, "own", "read") for each in "pq"]:
            alike = "xyz" if word == "let" else "pq"
            known = [each + figures for figures in ("", "0", "1") for each in alike]
            handed = row(*[("say", (of_it, each)) for each in known])
            deed = ("call", 0, (), (handed,))
            for worth, each in enumerate(known):
                deed = (word, each, number(worth + 5), deed)
            rules = (((), ("f",), (word, letter, ONE, row(DO, ("say", (of_it, letter))))),)
            self.said(rules, deed, *range(5, 5 + len(known)), 1)

    def test_a_name_of_the_body_that_would_be_next(self):
        rules = (((), ("f",), ("let", "x0", ONE, ("let", "x", TWO, row(DO, tell("x"), tell("x0"))))),)
        self.said(rules, ("let", "x", number(5), ("call", 0, (), (tell("x"),))), 5, 2, 1)

    def test_a_name_of_the_body_made_known_again(self):
        body = ("let", "x", ONE, row(("let", "x", TWO, ("let", "y", number(3), row(DO, tell("x"), tell("y")))),
                                     tell("x")))
        deed = ("let", "x", number(5), ("let", "y", number(6), ("call", 0, (), (row(tell("x"), tell("y")),))))
        self.said((((), ("f",), body),), deed, 5, 6, 2, 3, 1)

    def test_one_handed_deed_names_what_the_other_makes_known(self):
        rules = (((), ("f", "g"), row(DO, ("do", "g"))),)
        deed = ("let", "x", number(5), ("call", 0, (), (("let", "x", ONE, tell("x")), tell("x"))))
        self.said(rules, deed, 1, 5)


class HandedOn(Putting):
    def test_to_another_rule(self):
        rules = ((("x",), ("f",), row(DO, tell("x"))), (("x",), ("f",), ("call", 0, (TWO,), (row(DO, tell("x")),))))
        self.said(rules, ("let", "x", number(5), ("call", 1, (ONE,), (tell("x"),))), 5, 1, 2)

    def test_under_another_name(self):
        rules = (((), ("g",), ("do", "g")), ((), ("f", "g"), ("call", 0, (), (("do", "f"),))))
        self.said(rules, ("call", 1, (), (say(1), say(2))), 1)

    def test_crossed(self):
        rules = (((), ("f", "g"), row(DO, ("do", "g"))), ((), ("f", "g"), ("call", 0, (), (("do", "g"), DO))))
        self.said(rules, ("call", 1, (), (say(1), say(2))), 2, 1)

    def test_through_lets_and_owns_of_like_names_in_all_four(self):
        body = ("let", "x", ("add", name("x"), number(100)), ("own", "p", name("x"), row(DO, tell("x"), show("p"))))
        rules = ((("x",), ("f",), body),)
        for count in range(3):
            handed = row(DO, tell("x"), show("p"))
            call = ("call", count, (("add", name("x"), ONE),), (handed,))
            rules += ((("x",), ("f",), ("own", "p", ("add", name("x"), number(100)), call)),)
        deed = ("let", "x", number(5), ("own", "p", number(7), ("call", 3, (ONE,), (row(tell("x"), show("p")),))))
        self.said(rules, deed, 5, 7, 1, 101, 2, 102, 3, 103, 104, 104)

    def test_a_handed_deed_that_calls_the_same_rule(self):
        rules = ((("x",), ("f",), ("let", "y", name("x"), row(DO, tell("y")))),)
        inner = ("call", 0, (("add", name("y"), TWO),), (tell("y"),))
        self.said(rules, ("let", "y", number(5), ("call", 0, (ONE,), (inner,))), 5, 7, 1)


class NewOwnShelves(Putting):
    def test_a_new_one_each_time(self):
        rules = (((), (), ("own", "p", ONE, row(show("p"), write("p", 5)))),)
        self.said(rules, ("loop", number(3), ("call", 0, (), ())), 1, 1, 1)

    def test_one_that_lasts_over_the_calls(self):
        rules = (((), ("f",), row(DO, DO)),)
        call = ("call", 0, (), (put("p", ONE, 1),))
        self.said(rules, ("own", "p", ONE, row(call, call, show("p"))), 5)


class ManyDeeds(Putting):
    def test_far_more_than_sixty_without_calls(self):
        for deed in (chain(5001), comb(5001)):
            told = put_in((), deed)
            self.assertEqual(size_of(told), 5001)
            self.assertEqual(run((), told, STORE, []), run((), deed, STORE, []))

    def test_deep_in_every_way(self):
        rules = ((("x",), ("f",), ("let", "y", name("x"), ("add", DO, name("y")))),)
        worths, handed, lets = ONE, ONE, ("call", 0, (name("x"),), (name("x"),))
        for _ in range(1500):
            worths = ("call", 0, (worths,), (ONE,))
            handed = ("call", 0, (ONE,), (handed,))
            lets = ("let", "x", ("add", ONE, ("read", "a")), ("own", "p", name("x"), lets))
        for deed in (worths, handed, lets):
            told = put_in(rules, deed)
            self.assertEqual(run((), told, STORE, []), run(rules, deed, STORE, []))
            self.assertEqual(touches((), told), touches(rules, deed))

    def test_a_deed_of_some_that_becomes_one_of_many(self):
        rules = (((), ("f",), row(*[DO] * 20)),)
        deed = say(1)
        for _ in range(3):
            deed = ("call", 0, (), (deed,))
        told = put_in(rules, deed)
        self.assertGreater(size_of(told), 8000)
        self.assertEqual(run((), told, STORE, [])[2], [1] * 8000)

    def test_many_names_known_and_all_of_them_meant(self):
        names = ["x"] + ["x" + str(count) for count in range(1000)]
        shelves = ["p"] + ["p" + str(count) for count in range(1000)]
        body = ("let", "x", ONE, ("own", "p", TWO, ("add", DO, ("add", name("x"), read("p")))))
        handed = ONE
        for each, shelf in zip(names, shelves):
            handed = ("add", handed, ("add", name(each), read(shelf)))
        deed = ("call", 0, (), (handed,))
        for count, (each, shelf) in enumerate(zip(names, shelves)):
            deed = ("let", each, number(count), ("own", shelf, number(2), deed))
        rules = (((), ("f",), body),)
        told = put_in(rules, deed)
        self.assertEqual(run((), told, STORE, []), run(rules, deed, STORE, []))
        for each in deeds_in(told):
            self.assertTrue(each[0] not in ("let", "name") or is_name(each[1]), each[:2])
            self.assertTrue(each[0] not in ("own", "read", "write") or is_own_shelf(each[1]), each[:2])


class FewNames(Chance):
    """Chance deeds with but a few names, so that they often are alike."""

    def name(self, letters):
        return letters[self.chance.choice([0, 0, 0, 1])]

    def rules(self):
        rules = ()
        for _ in range(self.chance.randrange(1, 5)):
            names = self.chance.sample(["x", "y"], self.chance.randrange(3))
            handed = self.chance.sample(["f", "g"], self.chance.randrange(3))
            rules += ((tuple(names), tuple(handed), self.deed(rules, tuple(names + handed), 3)),)
        return rules


class ChanceDeeds(Putting):
    def samples(self, sort, count):
        for seed in range(count):
            chance = sort(seed)
            rules = chance.rules()
            deed = chance.deed(rules, (), chance.chance.choice([2, 3, 4]))
            told = put_in(rules, deed)
            if size_of(told) < 20000:
                yield chance, rules, deed

    def test_run_trace_and_touches_are_the_same(self):
        looked = renamed = 0
        for sort in (Chance, FewNames):
            for chance, rules, deed in self.samples(sort, 700):
                stores, asks = [chance.store(), chance.store()], [chance.asked()]
                told = self.put(rules, deed, stores, asks)
                looked += 1
                renamed += any(each[1:2] in (("x0",), ("y0",), ("p0",), ("q0",)) for each in deeds_in(told))
        self.assertGreater(looked, 1300)
        self.assertGreater(renamed, 40)

    def test_beside_a_second_way_to_run(self):
        for chance, rules, deed in self.samples(FewNames, 300):
            store, asked = chance.store(), chance.asked()
            plain = PlainRun(rules, [deed], store, asked)
            worths, behind, said, asks = plain.finish()
            told = put_in(rules, deed)
            self.assertEqual(run((), told, store, asked), (worths[0], behind, said, asks))
            self.assertEqual(trace((), told, store, asked), plain.touches)

    def test_what_is_told_is_a_deed_by_no_rules(self):
        small = 0
        for chance, rules, deed in self.samples(FewNames, 500):
            told = put_in(rules, deed)
            if size_of(told) <= 60:
                self.assertIs(is_deed((), told), True, told)
                small += deed != told
        self.assertGreater(small, 100)

    def test_put_in_again_it_stays(self):
        for chance, rules, deed in self.samples(FewNames, 200):
            told = put_in(rules, deed)
            self.assertEqual(put_in((), told), told)


class HandedIn(unittest.TestCase):
    def test_it_stays_as_it_was_and_nothing_is_kept(self):
        for seed in range(60):
            chance = FewNames(seed)
            rules = chance.rules()
            deed = chance.deed(rules, (), 3)
            before = copy.deepcopy((rules, deed))
            told = put_in(rules, deed)
            self.assertEqual((rules, deed), before)
            self.assertEqual(put_in(rules, deed), told)


if __name__ == "__main__":
    unittest.main()
