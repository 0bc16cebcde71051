import copy
import unittest

from shelfwork.deeds import is_deed, is_rules, size_of
from shelfwork.running import run
from shelfwork.tidying import tidied
from shelfwork.touches import rule_touches, touches
from helper import FIFTEEN, ONE, RULES, TWO, Chance, chain, comb, name, number, plain_marks, read, row, say, write

STORE = (10, 20, 30, 40)
ASK = ("ask",)
DO = ("do", "f")
NONE = number(0)

# Rules that only read, that write, that do what is handed, and that do not, but write a shelf of their own.
READS, WRITES, DOES, DOES_NOT = 0, 1, 2, 3
SAMPLES = (
    (("x",), (), ("add", name("x"), read("a"))),
    (("x",), (), ("write", "a", name("x"))),
    ((), ("f",), ("add", DO, read("b"))),
    ((), ("f",), ("own", "p", ONE, ("write", "p", read("b")))),
)

QUIET = (ONE, read("a"), ("add", read("a"), read("d")), ("less", ONE, read("b")), ("if", read("a"), ONE, TWO),
         ("own", "p", ONE, ("write", "p", TWO)), ("let", "x", ONE, ("add", name("x"), name("x"))),
         ("call", READS, (ONE,), ()), ("call", READS, (read("b"),), ()), ("call", DOES, (), (read("a"),)),
         ("call", DOES_NOT, (), (say(1),)), ("call", DOES_NOT, (), (write("a", 1),)))

LOUD = (write("a", 1), say(1), ASK, ("add", ONE, ASK), ("if", read("a"), ASK, TWO), ("loop", read("a"), say(1)),
        ("own", "p", ASK, read("p")), ("let", "x", say(1), name("x")), ("call", WRITES, (ONE,), ()),
        ("call", READS, (ASK,), ()), ("call", DOES, (), (write("c", 1),)), ("call", DOES, (), (say(1),)),
        ("call", DOES, (), (ASK,)))


def stands(text, thing):
    return thing == text or (isinstance(thing, tuple) and any(stands(text, part) for part in thing))


def plain_tidied(rules, deed):
    """A second way, after the words of the document: from the inmost parts out, each mark told anew."""
    def only_reads(part):
        return all(mark[0] == "read" for mark in plain_marks(rules, part))

    def then(one, other):
        return other if only_reads(one) else ("then", one, other)

    word = deed[0]
    if word == "call":
        return deed[:2] + tuple(tuple(plain_tidied(rules, part) for part in parts) for parts in deed[2:])
    deed = tuple(plain_tidied(rules, part) if isinstance(part, tuple) else part for part in deed)
    if word == "then":
        return then(deed[1], deed[2])
    if word == "loop" and only_reads(deed[2]):
        return then(deed[1], NONE)
    if word in ("let", "own") and not stands(deed[1], deed[3]):
        return then(deed[2], deed[3])
    if word == "if" and deed[2] == deed[3]:
        return then(deed[1], deed[2])
    if word == "if" and deed[1][0] == "number":
        return deed[2] if deed[1][1] != 0 else deed[3]
    return deed


class Tidying(unittest.TestCase):
    def becomes(self, deed, other, rules=SAMPLES):
        self.assertEqual(tidied(rules, deed), other, deed)
        self.assertEqual(plain_tidied(rules, deed), other, deed)

    def stays(self, deed, rules=SAMPLES):
        self.becomes(deed, deed, rules)

    def test_the_samples_are_such(self):
        for deed in QUIET + LOUD:
            self.assertTrue(is_deed(SAMPLES, deed), deed)
            self.assertEqual(all(mark[0] == "read" for mark in touches(SAMPLES, deed)), deed in QUIET, deed)
        self.assertTrue(is_rules(SAMPLES))


class Then(Tidying):
    def test_a_one_that_only_reads(self):
        for deed in QUIET:
            for other in (ONE, say(2), read("a")):
                self.becomes(("then", deed, other), other)

    def test_a_one_that_does_not(self):
        for deed in LOUD:
            self.stays(("then", deed, TWO))

    def test_the_other_may_be_anything(self):
        for other in (read("a"), say(1), ASK, ("call", WRITES, (ONE,), ())):
            self.becomes(("then", ONE, other), other)
            self.stays(("then", ASK, other))

    def test_a_one_that_reads_an_own_shelf(self):
        writes = ("write", "p", TWO)
        self.becomes(("own", "p", ONE, ("then", read("p"), writes)), ("own", "p", ONE, writes))

    def test_a_one_that_writes_an_own_shelf(self):
        self.stays(("own", "p", ONE, ("then", ("write", "p", TWO), read("p"))))
        self.stays(("own", "p", ONE, ("then", ("add", ONE, ("write", "p", TWO)), read("p"))))

    def test_a_one_that_writes_an_own_shelf_of_itself(self):
        inner = ("own", "p", ONE, ("write", "p", TWO))
        self.becomes(("then", inner, ONE), ONE)
        self.becomes(("own", "p", ONE, ("then", inner, read("p"))), ("own", "p", ONE, read("p")))

    def test_a_one_that_writes_an_outer_own_shelf_within_an_inner_one(self):
        inner = ("own", "q", ONE, ("then", ("write", "q", TWO), ("write", "p", read("q"))))
        self.stays(("own", "p", ONE, ("then", inner, read("p"))))

    def test_an_own_shelf_is_hidden_in_its_body_alone(self):
        inner = ("own", "p", ("write", "p", TWO), ("write", "p", ONE))
        self.stays(("own", "p", ONE, ("then", inner, read("p"))))

    def test_a_one_that_calls(self):
        self.becomes(("then", ("call", READS, (ONE,), ()), TWO), TWO)
        self.stays(("then", ("call", WRITES, (ONE,), ()), TWO))
        self.stays(("then", ("call", READS, (say(1),), ()), TWO))
        self.becomes(("then", ("call", DOES, (), (read("a"),)), TWO), TWO)
        self.stays(("then", ("call", DOES, (), (say(1),)), TWO))
        self.becomes(("then", ("call", DOES_NOT, (), (say(1),)), TWO), TWO)

    def test_a_one_that_hands_what_writes_an_own_shelf(self):
        self.stays(("own", "p", ONE, ("then", ("call", DOES, (), (("write", "p", TWO),)), read("p"))))
        self.becomes(("own", "p", ONE, ("then", ("call", DOES_NOT, (), (("write", "p", TWO),)), read("p"))),
                     ("own", "p", ONE, read("p")))

    def test_each_handed_deed_by_its_own_name(self):
        rules = (((), ("f", "g"), ("do", "g")),)
        self.becomes(("then", ("call", 0, (), (say(1), ONE)), TWO), TWO, rules)
        self.stays(("then", ("call", 0, (), (ONE, say(1))), TWO), rules)

    def test_what_a_rule_never_comes_to_is_a_mark_still(self):
        rules = (((), (), ("if", NONE, say(1), ONE)), ((), ("f",), ("loop", NONE, DO)))
        self.stays(("then", ("call", 0, (), ()), TWO), rules)
        self.stays(("then", ("call", 1, (), (say(1),)), TWO), rules)
        self.becomes(("then", ("call", 1, (), (ONE,)), TWO), TWO, rules)

    def test_many_in_a_row(self):
        self.becomes(row(ONE, say(1), read("a"), ASK, TWO, name("x")), row(say(1), ASK, name("x")))
        self.becomes(("then", ("then", say(1), ONE), TWO), ("then", ("then", say(1), ONE), TWO))


class Loop(Tidying):
    def test_a_body_that_only_reads_and_a_one_that_touches(self):
        for body in QUIET:
            for one in LOUD:
                self.becomes(("loop", one, body), ("then", one, NONE))

    def test_a_body_that_only_reads_and_a_one_that_does_so(self):
        for body in QUIET:
            for one in QUIET:
                self.becomes(("loop", one, body), NONE)

    def test_a_body_that_does_not(self):
        for body in LOUD:
            for one in (NONE, number(3), read("a"), ASK, say(1)):
                self.stays(("loop", one, body))

    def test_own_shelves(self):
        self.stays(("own", "p", ONE, ("loop", TWO, ("write", "p", ONE))))
        self.becomes(("own", "p", ONE, ("then", say(1), ("add", read("p"), ("loop", TWO, read("p"))))),
                     ("own", "p", ONE, ("then", say(1), ("add", read("p"), NONE))))


class LetAndOwn(Tidying):
    def test_a_name_that_stands_nowhere_in_the_body(self):
        for word, text in (("let", "x"), ("own", "p")):
            for one in QUIET:
                self.becomes((word, text, one, say(2)), say(2))
            for one in LOUD:
                self.becomes((word, text, one, TWO), ("then", one, TWO))
                self.becomes((word, text, one, say(2)), ("then", one, say(2)))

    def test_a_name_that_stands_in_the_body(self):
        self.stays(("let", "x", ONE, name("x")))
        self.stays(("let", "x", ONE, ("add", ONE, ("add", name("x"), ONE))))
        self.stays(("own", "p", ONE, read("p")))
        self.stays(("own", "p", ONE, ("write", "p", TWO)))
        self.stays(("own", "p", ASK, ("add", ONE, ("write", "p", TWO))))

    def test_a_name_that_stands_in_its_one_alone(self):
        self.becomes(("let", "x", ONE, ("let", "x", say(1), say(2))), ("then", say(1), say(2)))
        deed = ("let", "x", ONE, ("let", "y", ("say", name("x")), say(2)))
        self.becomes(deed, ("let", "x", ONE, ("then", ("say", name("x")), say(2))))
        again = ("let", "x", ONE, ("let", "x", ("say", name("x")), say(2)))
        self.becomes(again, ("let", "x", ONE, ("then", ("say", name("x")), say(2))))
        self.becomes(("own", "p", ONE, ("own", "p", ("write", "p", TWO), say(2))),
                     ("own", "p", ONE, ("then", ("write", "p", TWO), say(2))))

    def test_a_name_that_stands_there_only_where_it_is_made_known_again(self):
        self.stays(("let", "x", ONE, ("let", "x", TWO, name("x"))))
        self.stays(("own", "p", ONE, ("own", "p", TWO, read("p"))))
        self.stays(("own", "p", ONE, ("own", "p", TWO, ("write", "p", ONE))))
        self.stays(("let", "x", say(1), ("add", ONE, ("let", "x", TWO, ("add", name("x"), ONE)))))

    def test_made_known_again_and_needless_there(self):
        self.becomes(("let", "x", ONE, ("let", "x", TWO, ("say", ONE))), say(1))
        self.becomes(("own", "p", ONE, ("own", "p", ASK, ("say", ONE))), ("then", ASK, say(1)))

    def test_names_in_worths_and_in_what_is_handed(self):
        self.stays(("let", "x", ONE, ("call", WRITES, (name("x"),), ())))
        self.stays(("let", "x", ONE, ("call", DOES, (), (("say", name("x")),))))
        self.stays(("let", "x", ONE, ("call", DOES_NOT, (), (name("x"),))))
        self.stays(("own", "p", ONE, ("call", DOES_NOT, (), (read("p"),))))
        self.stays(("own", "p", ONE, ("call", WRITES, (("write", "p", TWO),), ())))

    def test_names_of_the_rules_that_are_called_do_not_stand_there(self):
        self.becomes(("let", "x", ONE, ("call", WRITES, (TWO,), ())), ("call", WRITES, (TWO,), ()))
        self.becomes(("own", "p", ONE, ("call", DOES_NOT, (), (TWO,))), ("call", DOES_NOT, (), (TWO,)))

    def test_names_of_like_figures_are_unlike(self):
        self.becomes(("let", "x", ONE, ("let", "x0", TWO, name("x0"))), ("let", "x0", TWO, name("x0")))
        self.becomes(("let", "x", ONE, ("let", "x0", TWO, name("x"))), ("let", "x", ONE, name("x")))
        self.becomes(("own", "p", ONE, ("own", "p1", TWO, read("p1"))), ("own", "p1", TWO, read("p1")))

    def test_a_name_in_a_part_that_was_left_out(self):
        self.becomes(("let", "x", ONE, ("then", name("x"), say(1))), say(1))
        self.becomes(("own", "p", ASK, ("if", ONE, say(1), ("write", "p", TWO))), ("then", ASK, say(1)))
        self.becomes(("let", "x", say(1), ("loop", name("x"), read("a"))), ("then", say(1), NONE))


class If(Tidying):
    def test_the_same_one_and_other(self):
        for same in (ONE, say(1), ("add", read("a"), ASK), ("call", WRITES, (ONE,), ())):
            for test in LOUD:
                self.becomes(("if", test, same, same), ("then", test, same))
            for test in QUIET:
                self.becomes(("if", test, same, same), same)

    def test_a_number_as_its_test(self):
        for worth in (1, 2, 4, 1008):
            self.becomes(("if", number(worth), say(1), ASK), say(1))
            self.becomes(("if", number(worth), ONE, TWO), ONE)
        self.becomes(("if", NONE, say(1), ASK), ASK)
        self.becomes(("if", NONE, ONE, TWO), TWO)

    def test_both(self):
        for worth in (0, 1, 7):
            self.becomes(("if", number(worth), say(1), say(1)), say(1))

    def test_neither(self):
        for test in (read("a"), ASK, ("add", NONE, ONE), ("less", ONE, TWO)):
            self.stays(("if", test, ONE, TWO))
            self.stays(("if", test, say(1), say(2)))
        self.becomes(("let", "x", ONE, ("if", name("x"), ONE, TWO)), ("let", "x", ONE, ("if", name("x"), ONE, TWO)))

    def test_almost_the_same(self):
        pairs = ((read("a"), read("b")), (("add", ONE, TWO), ("add", TWO, ONE)),
                 (("add", ONE, TWO), ("less", ONE, TWO)), (say(1), say(2)),
                 (write("a", 1), write("b", 1)), (ONE, say(1)), (say(1), ("say", ("say", ONE))),
                 (("call", READS, (ONE,), ()), ("call", READS, (TWO,), ())),
                 (("call", DOES, (), (ONE,)), ("call", DOES_NOT, (), (ONE,))),
                 (("let", "x", ONE, name("x")), ("let", "y", ONE, name("y"))))
        for one, other in pairs:
            self.stays(("if", ASK, one, other))
            self.stays(("if", ASK, other, one))

    def test_calls_that_are_alike_but_for_where_their_parts_stand(self):
        rules = ((("x",), (), name("x")), ((), ("f",), DO))
        self.stays(("if", ASK, ("call", 0, (ONE,), ()), ("call", 1, (), (ONE,))), rules)

    def test_the_same_only_once_they_are_tidied(self):
        self.becomes(("if", ASK, ("then", ONE, say(1)), ("if", ONE, say(1), TWO)), ("then", ASK, say(1)))

    def test_a_test_that_becomes_a_number(self):
        self.becomes(("if", ("then", read("a"), ONE), say(1), ASK), say(1))
        self.becomes(("if", ("loop", read("a"), ONE), say(1), ASK), ASK)


class FromTheInmostOut(Tidying):
    def test_needless_only_once_the_parts_are_tidied(self):
        self.becomes(("then", ("if", NONE, say(1), ONE), TWO), TWO)
        self.becomes(("loop", ASK, ("if", ONE, ONE, say(1))), ("then", ASK, NONE))
        needless = ("then", ("if", NONE, say(1), ONE), TWO)
        self.becomes(("then", ("loop", needless, ("let", "x", ONE, needless)), say(3)), say(3))
        self.becomes(("then", ("call", DOES, (), (("if", NONE, say(1), ONE),)), TWO), TWO)
        self.becomes(("then", ("call", READS, (("if", NONE, say(1), ONE),), ()), TWO), TWO)

    def test_within_every_part(self):
        needless, left = ("then", ONE, TWO), TWO
        for deed, told in ((("write", "a", needless), ("write", "a", left)), (("say", needless), ("say", left)),
                           (("add", needless, needless), ("add", left, left)),
                           (("less", needless, needless), ("less", left, left)),
                           (("then", say(1), needless), ("then", say(1), left)),
                           (("then", ("say", needless), ONE), ("then", ("say", left), ONE)),
                           (("if", ASK, needless, ONE), ("if", ASK, left, ONE)),
                           (("if", ("say", needless), ONE, needless), ("if", ("say", left), ONE, left)),
                           (("loop", needless, ("say", needless)), ("loop", left, ("say", left))),
                           (("let", "x", needless, ("add", name("x"), needless)),
                            ("let", "x", left, ("add", name("x"), left))),
                           (("own", "p", needless, ("write", "p", needless)), ("own", "p", left, ("write", "p", left))),
                           (("call", READS, (needless,), ()), ("call", READS, (left,), ())),
                           (("call", DOES, (), (needless,)), ("call", DOES, (), (left,)))):
            self.becomes(deed, told)

    def test_two_worths_and_two_handed_deeds_stay_in_their_places(self):
        rules = ((("x", "y"), ("f", "g"), ONE),)
        deed = ("call", 0, (("then", ONE, number(3)), number(4)), (("then", ONE, number(5)), number(6)))
        self.becomes(deed, ("call", 0, (number(3), number(4)), (number(5), number(6))), rules)

    def test_what_is_not_told_of_stays(self):
        for deed in (("add", NONE, NONE), ("less", ONE, ONE), ("let", "x", ONE, name("x")), ("loop", NONE, say(1)),
                     ("call", READS, (ONE,), ()), ("call", DOES_NOT, (), (say(1),)), ("say", ONE),
                     ("own", "p", ONE, read("p")), ("write", "a", read("a"))):
            self.stays(deed)

    def test_the_fifteen(self):
        for word, deed in FIFTEEN.items():
            self.assertEqual(tidied(RULES, deed), plain_tidied(RULES, deed), deed)
            if word not in ("then", "if", "loop"):
                self.assertEqual(tidied(RULES, deed), deed)


class BodiesOfRules(Tidying):
    def test_a_do_is_none_of_reads(self):
        self.stays(("then", DO, ONE))
        self.stays(("loop", TWO, DO))
        self.becomes(("let", "x", DO, ONE), ("then", DO, ONE))
        self.becomes(("if", DO, ONE, ONE), ("then", DO, ONE))
        self.becomes(("loop", DO, ONE), ("then", DO, NONE))
        self.becomes(("if", ONE, DO, TWO), DO)
        self.becomes(("if", ASK, DO, DO), ("then", ASK, DO))
        self.stays(("if", ASK, DO, ("do", "g")))

    def test_a_do_that_is_handed_on(self):
        self.stays(("then", ("call", DOES, (), (DO,)), ONE))
        self.becomes(("then", ("call", DOES_NOT, (), (DO,)), ONE), ONE)

    def test_names_and_own_shelves_of_around(self):
        self.becomes(("then", name("x"), ("then", read("p"), DO)), DO)
        self.stays(("then", ("write", "p", name("x")), read("p")))
        self.stays(("then", ("own", "q", ONE, ("write", "p", read("q"))), read("p")))

    def test_a_body_that_has_names_and_dos(self):
        parts = (name("y"), DO, ("loop", DO, name("y")), ("if", DO, name("x"), name("x")))
        left = (DO, ("then", DO, NONE), ("then", DO, name("x")))
        self.becomes(("let", "y", name("x"), row(*parts)), row(*left))
        self.becomes(("let", "y", DO, row(*parts)), ("then", DO, row(*left)))


class ManyDeeds(unittest.TestCase):
    def test_far_more_than_sixty_that_stay(self):
        for deed in (chain(5001), ("say", comb(5001))):
            told = tidied((), deed)
            self.assertEqual(size_of(told), size_of(deed))
            self.assertEqual(run((), told, STORE, []), run((), deed, STORE, []))

    def test_far_more_than_sixty_that_become_few(self):
        ones, lets, ifs, loops = say(1), say(1), say(1), ("if", read("a"), say(1), say(1))
        for _ in range(3000):
            ones = ("then", ONE, ones)
            lets = ("let", "x", ONE, ("own", "p", read("a"), lets))
            ifs = ("if", ONE, ifs, TWO)
            loops = ("then", ("loop", ONE, read("b")), loops)
        for deed in (ones, lets, ifs, loops):
            self.assertEqual(tidied((), deed), say(1))

    def test_deep_ones_that_are_the_same_and_that_are_not(self):
        told = tidied((), ("if", ASK, chain(5001), chain(5001)))
        self.assertEqual((told[0], told[1], size_of(told)), ("then", ASK, 5003))
        told = tidied((), ("if", ASK, chain(5001), chain(5002)))
        self.assertEqual((told[0], told[1], size_of(told)), ("if", ASK, 10005))

    def test_deep_calls_that_are_the_same_and_that_are_not(self):
        rules = ((("x",), ("f",), ("add", name("x"), DO)),)
        worths, handed, others = ASK, ASK, ("add", ASK, ONE)
        for _ in range(3000):
            worths = ("call", 0, (worths,), (ONE,))
            handed = ("call", 0, (ONE,), (handed,))
            others = ("call", 0, (ONE,), (others,))
        for deed in (worths, handed):
            self.assertEqual(tidied(rules, ("if", say(1), deed, deed))[:2], ("then", say(1)))
        self.assertEqual(tidied(rules, ("if", say(1), worths, handed))[:2], ("if", say(1)))
        self.assertEqual(tidied(rules, ("if", say(1), others, handed))[:2], ("if", say(1)))

    def test_deep_in_thens_lets_owns_and_calls(self):
        rules = ((("x",), ("f",), ("add", name("x"), DO)),)
        left, names, shelves, calls = say(1), name("x"), read("p"), ONE
        for _ in range(2000):
            left = ("then", left, say(1))
            names = ("let", "x", ("add", ONE, ASK), names)
            shelves = ("own", "p", ONE, ("then", ("write", "p", TWO), shelves))
            calls = ("call", 0, (("then", ONE, TWO),), (calls,))
        for deed in (left, names, shelves):
            told = tidied(rules, deed)
            self.assertEqual(size_of(told), size_of(deed))
            self.assertEqual(run(rules, told, STORE, []), run(rules, deed, STORE, []))
        self.assertEqual(size_of(tidied(rules, calls)), 4001)
        self.assertEqual(tidied(rules, ("then", calls, TWO)), TWO)

    def test_many_unlike_names(self):
        names = [letter + str(count) for letter in "xyz" for count in range(700)]
        deed = say(1)
        for each in names:
            deed = ("add", name(each), deed)
        for each in names:
            deed = ("let", each, ASK, ("let", "x", ASK, deed))
        told = tidied((), deed)
        self.assertEqual(size_of(told), size_of(deed))
        self.assertEqual(touches((), told), [("ask",), ("say",)])
        self.assertEqual(told[3][0], "then")


class ChanceDeeds(unittest.TestCase):
    def samples(self, count):
        for seed in range(count):
            chance = Chance(seed)
            rules = chance.rules()
            yield chance, rules, chance.deed(rules, (), chance.chance.choice([2, 3, 4]))

    def test_beside_a_second_way(self):
        changed = 0
        for chance, rules, deed in self.samples(1000):
            self.assertEqual(tidied(rules, deed), plain_tidied(rules, deed))
            changed += tidied(rules, deed) != deed
            for number_of_it, rule in enumerate(rules):
                told = tidied(rules, rule[2])
                self.assertEqual(told, plain_tidied(rules, rule[2]))
                anew = rules[:number_of_it] + ((rule[0], rule[1], told),) + rules[number_of_it + 1:]
                self.assertLessEqual(set(rule_touches(anew, number_of_it)), set(rule_touches(rules, number_of_it)))
        self.assertGreater(changed, 300)

    def test_it_comes_to_the_same_and_has_no_mark_more(self):
        fewer = 0
        for chance, rules, deed in self.samples(800):
            told = tidied(rules, deed)
            self.assertLessEqual(set(touches(rules, told)), set(touches(rules, deed)))
            fewer += touches(rules, told) != touches(rules, deed)
            for _ in range(3):
                store, asked = chance.store(), chance.asked()
                self.assertEqual(run(rules, told, store, asked), run(rules, deed, store, asked), (rules, deed))
        self.assertGreater(fewer, 100)

    def test_rules_with_tidied_bodies_come_to_the_same(self):
        for chance, rules, deed in self.samples(400):
            anew = tuple((rule[0], rule[1], tidied(rules, rule[2])) for rule in rules)
            store, asked = chance.store(), chance.asked()
            self.assertEqual(run(anew, deed, store, asked), run(rules, deed, store, asked))

    def test_tidied_again_it_stays(self):
        for chance, rules, deed in self.samples(400):
            told = tidied(rules, deed)
            self.assertEqual(tidied(rules, told), told)

    def test_it_is_a_deed_still(self):
        for chance, rules, deed in self.samples(400):
            if is_deed(rules, deed):
                self.assertTrue(is_deed(rules, tidied(rules, deed)))


class HandedIn(unittest.TestCase):
    def test_it_stays_as_it_was_and_nothing_is_kept(self):
        for seed in range(60):
            chance = Chance(seed)
            rules = chance.rules()
            deed = chance.deed(rules, (), 3)
            before = copy.deepcopy((rules, deed))
            told = tidied(rules, deed)
            self.assertEqual((rules, deed), before)
            self.assertEqual(tidied(rules, deed), told)


if __name__ == "__main__":
    unittest.main()
