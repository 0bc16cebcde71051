"""What the document promises over the whole program, on chance rules, deeds, stores and asked."""

import copy
import itertools
import unittest

from shelfwork.beside import (all_may_go, clash, clashing, goes_twice, is_order, layers, may_go, order_matters, run_in)
from shelfwork.deeds import is_deed, is_rules, size_of
from shelfwork.errors import BadKinds, Clash, NoDeed, NotDone, NoText
from shelfwork.halls import Hall
from shelfwork.kinds import (both_of, first_fault, fits, is_kind, is_less, joined, least_kinds, told_touches, too_much)
from shelfwork.putting import put_in
from shelfwork.running import run, run_all, run_by, trace
from shelfwork.texts import read, written
from shelfwork.tidying import tidied
from shelfwork.touches import is_quiet, reads_of, rule_touches, touches, untouched, writes_of
from helper import ALL_MARKS, ONE, TWO, Chance, chain, comb, say

STORE = (10, 20, 30, 40)
MOST_PUT_IN = 20000


def samples(count, depths=(1, 2, 3)):
    for seed in range(count):
        chance = Chance(seed)
        rules = chance.rules()
        yield chance, rules, chance.deed(rules, (), chance.chance.choice(depths))


def some_deeds(chance, rules, most=5):
    count = chance.chance.randrange(most + 1)
    return [chance.deed(rules, (), chance.chance.choice([1, 2, 2, 3])) for _ in range(count)]


def mark_of(touch):
    return touch[:2] if touch[0] in ("read", "write") else touch[:1]


class ToldTouches(unittest.TestCase):
    """(a)"""

    def test_a_run_touches_only_what_is_told(self):
        for chance, rules, deed in samples(500):
            marks = touches(rules, deed)
            for touch in trace(rules, deed, chance.store(), chance.asked()):
                self.assertIn(mark_of(touch), marks)

    def test_it_hangs_only_on_what_it_may_read_and_ask(self):
        for chance, rules, deed in samples(500):
            store, asked, marks = chance.store(), chance.asked(), touches(rules, deed)
            reads, writes = reads_of(rules, deed), writes_of(rules, deed)
            mixed = tuple(worth if shelf in reads else chance.worth() for shelf, worth in zip("abcd", store))
            other = asked if ("ask",) in marks else chance.asked()
            one = run(rules, deed, store, asked)
            two = run(rules, deed, mixed, other)
            self.assertEqual((one[0], one[2], one[3]), (two[0], two[2], two[3]))
            self.assertEqual(trace(rules, deed, store, asked), trace(rules, deed, mixed, other))
            for place, shelf in enumerate("abcd"):
                if shelf not in writes:
                    self.assertEqual((one[1][place], two[1][place]), (store[place], mixed[place]))
                elif one[1][place] != store[place]:
                    self.assertEqual(one[1][place], two[1][place])

    def test_what_is_untouched_stays(self):
        for chance, rules, deed in samples(300):
            store = chance.store()
            behind = run(rules, deed, store, chance.asked())[1]
            for shelf in untouched(rules, deed):
                self.assertEqual(behind["abcd".index(shelf)], store["abcd".index(shelf)])
            if is_quiet(rules, deed):
                self.assertEqual(behind, store)


class SideBySide(unittest.TestCase):
    """(b)"""

    def test_deeds_that_do_not_clash_come_to_the_same_in_any_turns_and_orders(self):
        several = 0
        for seed in range(250):
            chance = Chance(seed)
            rules = chance.rules()
            deeds = chance.deeds_apart(rules, 4, may_go)
            several += len(deeds) > 2
            self.assertTrue(all_may_go(rules, deeds))
            store, asked = chance.store(), chance.asked()
            told = run_all(rules, deeds, store, asked)
            for _ in range(4):
                turns = chance.turns(len(deeds)) if deeds else []
                self.assertEqual(run_by(rules, deeds, store, asked, turns), told)
                order = chance.shuffled(range(len(deeds)))
                self.assertEqual(run_in(rules, deeds, order, store, asked), told)
        self.assertGreater(several, 60)

    def test_where_the_order_of_two_makes_a_difference_they_clash(self):
        matters = 0
        for chance, rules, deed in samples(600):
            other, store, asked = chance.deed(rules, (), 2), chance.store(), chance.asked()
            if order_matters(rules, deed, other, store, asked):
                matters += 1
                self.assertFalse(may_go(rules, deed, other))
                self.assertNotEqual(clash(rules, deed, other), [])
        self.assertGreater(matters, 60)

    def test_a_deed_that_goes_twice(self):
        for chance, rules, deed in samples(300):
            if goes_twice(rules, deed):
                store, asked = chance.store(), chance.asked()
                once = run(rules, deed, store, asked)
                self.assertEqual(run(rules, deed, once[1], asked), once)


class Kinds(unittest.TestCase):
    """(c)"""

    def test_kinds_that_let_each_rule_its_touches_let_deeds_theirs(self):
        for chance, rules, deed in samples(400):
            kinds = [joined(kind, more) for kind, more in zip(least_kinds(rules), chance.kinds(rules))]
            self.assertIsNone(first_fault(rules, kinds))
            self.assertTrue(is_less(touches(rules, deed), told_touches(rules, kinds, deed)))

    def test_the_least_kinds_tell_just_those_there_are(self):
        for chance, rules, deed in samples(400):
            self.assertIsNone(first_fault(rules, least_kinds(rules)))
            self.assertEqual(told_touches(rules, least_kinds(rules), deed), touches(rules, deed))

    def test_fewer_marks_are_told_only_by_kinds_with_a_fault(self):
        for chance, rules, deed in samples(400):
            kinds = chance.kinds(rules)
            if not is_less(touches(rules, deed), told_touches(rules, kinds, deed)):
                self.assertIsNotNone(first_fault(rules, kinds))


class Layers(unittest.TestCase):
    """(d)"""

    def test_they_keep_clashing_deeds_in_their_order_and_there_are_no_fewer_such(self):
        for seed in range(200):
            chance = Chance(seed)
            rules = chance.rules()
            deeds = some_deeds(chance, rules)
            pairs, rows = clashing(rules, deeds), layers(rules, deeds)
            place = {each: where for where, row in enumerate(rows) for each in row}
            self.assertEqual(sorted(place), list(range(len(deeds))))
            self.assertTrue(all(place[one] < place[other] for one, other in pairs))
            fewer = itertools.product(range(max(len(rows) - 1, 0)), repeat=len(deeds))
            self.assertFalse(deeds and any(all(way[one] < way[other] for one, other in pairs) for way in fewer))

    def test_any_order_that_keeps_those_that_clash_comes_to_the_same(self):
        for seed in range(200):
            chance = Chance(seed)
            rules = chance.rules()
            deeds = some_deeds(chance, rules, 4)
            store, asked = chance.store(), chance.asked()
            told = run_all(rules, deeds, store, asked)
            self.assertTrue(is_order(rules, deeds, [each for row in layers(rules, deeds) for each in row]))
            for order in itertools.permutations(range(len(deeds))):
                if is_order(rules, deeds, list(order)):
                    self.assertEqual(run_in(rules, deeds, list(order), store, asked), told)


class PutInAndTidied(unittest.TestCase):
    """(e)"""

    def test_rules_put_in(self):
        for chance, rules, deed in samples(500):
            told = put_in(rules, deed)
            if size_of(told) <= MOST_PUT_IN:
                store, asked = chance.store(), chance.asked()
                self.assertEqual(run((), told, store, asked), run(rules, deed, store, asked))
                self.assertEqual(trace((), told, store, asked), trace(rules, deed, store, asked))
                self.assertEqual(touches((), told), touches(rules, deed))

    def test_needless_parts_left_out(self):
        for chance, rules, deed in samples(500):
            told, store, asked = tidied(rules, deed), chance.store(), chance.asked()
            self.assertEqual(run(rules, told, store, asked), run(rules, deed, store, asked))
            self.assertTrue(is_less(touches(rules, told), touches(rules, deed)))
            self.assertLessEqual(len(trace(rules, told, store, asked)), len(trace(rules, deed, store, asked)))

    def test_both(self):
        for chance, rules, deed in samples(300):
            told = put_in(rules, deed)
            if size_of(told) <= MOST_PUT_IN:
                store, asked = chance.store(), chance.asked()
                for both in (tidied((), told), put_in(rules, tidied(rules, deed))):
                    self.assertEqual(run((), both, store, asked), run(rules, deed, store, asked))
                    self.assertTrue(is_less(touches((), both), touches(rules, deed)))


class Halls(unittest.TestCase):
    """(f)"""

    def test_a_hall_comes_to_what_the_deeds_come_to_one_behind_the_other(self):
        waited = 0
        for seed in range(250):
            chance = Chance(seed)
            rules = chance.rules()
            deeds, store, asked = some_deeds(chance, rules), chance.store(), chance.asked()
            hall = Hall(rules, store, asked)
            for number, deed in enumerate(deeds):
                while hall.waits_for(deed):
                    waited += 1
                    hall.turn(chance.chance.choice(hall.going()))
                self.assertEqual(hall.begin(deed), number)
                for _ in range(chance.chance.randrange(3)):
                    if hall.going():
                        hall.turn(chance.chance.choice(hall.going()))
            told = run_all(rules, deeds, store, asked)
            self.assertEqual((hall.finish(), hall.store(), hall.said()), told[:3])
            self.assertEqual([hall.worth(number) for number in range(len(deeds))], told[0])
        self.assertGreater(waited, 100)


class Texts(unittest.TestCase):
    """(g)"""

    def test_texts_read_back_as_what_they_write(self):
        for chance, rules, deed in samples(500):
            if is_deed(rules, deed):
                self.assertEqual(read(rules, written(deed)), deed)
            told = tidied(rules, deed)
            if is_deed(rules, told):
                self.assertEqual(read(rules, written(told)), told)

    def test_and_as_nothing_else(self):
        for chance, rules, deed in samples(300):
            text = written(deed)
            place = chance.chance.randrange(len(text))
            other = text[:place] + chance.chance.choice(" ()[]0179abdfgpqxyz~") + text[place + 1:]
            try:
                self.assertEqual(written(read(rules, other)), other)
            except NoText:
                self.assertTrue(other != text or size_of(deed) > 60)


def all_functions(rules, deed, other, store, asked, kinds, turns):
    """Every function that tells something of a deed, with what it is handed, as a list of tuples."""
    deeds, order = [deed, other, deed], [2, 0, 1]
    kind = touches(rules, other)
    told = [(size_of, deed), (run, rules, deed, store, asked), (trace, rules, deed, store, asked),
            (run_all, rules, deeds, store, asked), (run_by, rules, deeds, store, asked, turns),
            (touches, rules, deed), (reads_of, rules, deed), (writes_of, rules, deed), (is_quiet, rules, deed),
            (untouched, rules, deed), (fits, rules, deed, kind), (too_much, rules, deed, kind),
            (told_touches, rules, kinds, deed), (may_go, rules, deed, other), (all_may_go, rules, deeds),
            (is_order, rules, deeds, order), (order_matters, rules, deed, other, store, asked),
            (goes_twice, rules, deed), (clash, rules, deed, other), (clashing, rules, deeds), (layers, rules, deeds),
            (run_in, rules, deeds, order, store, asked), (put_in, rules, deed), (tidied, rules, deed), (written, deed)]
    return told


def those_without_deeds(rules, kinds):
    told = [(is_rules, rules), (least_kinds, rules), (first_fault, rules, kinds), (joined, ALL_MARKS, []),
            (both_of, ALL_MARKS, ALL_MARKS), (is_less, [], ALL_MARKS), (is_kind, ALL_MARKS, ("f",))]
    return told + [(rule_touches, rules, number) for number in range(len(rules))]


class HandedInAndTold(unittest.TestCase):
    """0.3"""

    def calls(self, count):
        for chance, rules, deed in samples(count):
            if size_of(put_in(rules, deed)) > MOST_PUT_IN:
                continue
            other, kinds = chance.deed(rules, (), 2), chance.kinds(rules)
            handed = (chance.store(), chance.asked(), kinds, chance.turns(3))
            yield from all_functions(rules, deed, other, *handed)
            yield from those_without_deeds(rules, kinds)
            yield (is_deed, rules, deed)
            if is_deed(rules, deed):
                yield (read, rules, written(deed))

    def test_what_is_handed_in_is_as_it_was(self):
        for call in self.calls(60):
            before = copy.deepcopy(call[1:])
            call[0](*call[1:])
            self.assertEqual(call[1:], before, call[0])

    def test_what_was_told_and_then_changed_is_told_anew(self):
        for call in self.calls(60):
            told = call[0](*call[1:])
            kept = copy.deepcopy(told)
            for each in [told] + (list(told) if isinstance(told, (tuple, list)) else []):
                if isinstance(each, list):
                    each.append("changed")
                    each.reverse()
            self.assertEqual(call[0](*call[1:]), kept, call[0])

    def test_what_is_told_shares_no_list_with_what_is_handed_in(self):
        for call in self.calls(60):
            before = copy.deepcopy(call[1:])
            told = call[0](*call[1:])
            for each in [told] + (list(told) if isinstance(told, (tuple, list)) else []):
                if isinstance(each, list):
                    each.clear()
            self.assertEqual(call[1:], before, call[0])

    def test_truths_are_no_whole_numbers(self):
        self.assertFalse(is_deed((), ("number", True)))
        self.assertFalse(is_deed((((), (), ONE),), ("call", False, (), ())))

    def test_a_hall_that_refused_is_as_ahead(self):
        for chance, rules, deed in samples(150):
            hall = Hall(rules, chance.store(), [1, 2, 3])
            hall.begin(deed)
            before = (hall.going(), hall.store(), hall.said(), hall.waits_for(deed))
            for error, call in ((NoDeed, lambda: hall.turn(1)), (NoDeed, lambda: hall.worth(-1)),
                                (NotDone, lambda: hall.worth(0) if hall.going() else hall.turn(0)),
                                (Clash, lambda: hall.begin(deed))):
                if error is Clash and not hall.waits_for(deed):
                    continue
                with self.assertRaises(error):
                    call()
                self.assertEqual((hall.going(), hall.store(), hall.said(), hall.waits_for(deed)), before)

    def test_kinds_that_are_refused_are_as_they_were(self):
        rules = (((), ("f",), ONE),)
        for kinds in ([], [[("do", "g")]], [[("say",), ("ask",)]], [[], []]):
            before = copy.deepcopy(kinds)
            with self.assertRaises(BadKinds):
                first_fault(rules, kinds)
            with self.assertRaises(BadKinds):
                told_touches(rules, kinds, ONE)
            self.assertEqual(kinds, before)


def nested(around, inmost, often):
    deed = inmost
    for _ in range(often):
        deed = around(deed)
    return deed


class ManyDeeds(unittest.TestCase):
    """1.2"""

    rules = ((("x",), ("f",), ("add", ("do", "f"), ("name", "x"))),)
    often = 2500
    deep = (
        chain(often), comb(2 * often + 1),
        nested(lambda deed: ("write", "a", deed), ONE, often),
        nested(lambda deed: ("less", deed, TWO), ("ask",), often),
        nested(lambda deed: ("then", deed, say(2)), say(1), often),
        nested(lambda deed: ("then", say(2), deed), say(1), often),
        nested(lambda deed: ("if", deed, ONE, TWO), ("read", "a"), often),
        nested(lambda deed: ("if", ("read", "b"), deed, TWO), ("read", "a"), often),
        nested(lambda deed: ("if", ("ask",), TWO, deed), ("read", "a"), often),
        nested(lambda deed: ("loop", deed, say(1)), ONE, often),
        nested(lambda deed: ("loop", ONE, deed), say(1), often),
        nested(lambda deed: ("let", "x", deed, ("name", "x")), ("ask",), often),
        nested(lambda deed: ("let", "x", ONE, deed), ("say", ("name", "x")), often),
        nested(lambda deed: ("own", "p", deed, ("read", "p")), ("ask",), often),
        nested(lambda deed: ("own", "p", ONE, deed), ("write", "p", say(1)), often),
        nested(lambda deed: ("call", 0, (deed,), (ONE,)), ("ask",), often),
        nested(lambda deed: ("call", 0, (ONE,), (deed,)), ("ask",), often),
    )

    def test_no_such_deed_is_one_by_rules(self):
        for deed in self.deep:
            self.assertIs(is_deed(self.rules, deed), False)
            self.assertIs(is_rules((((), (), deed),)), False)
            with self.assertRaises(NoText):
                read(self.rules, written(deed))

    def test_every_function_takes_them(self):
        kinds = least_kinds(self.rules)
        for deed in self.deep:
            self.assertGreaterEqual(size_of(deed), self.often)
            for call in all_functions(self.rules, deed, say(1), STORE, [1, 2], kinds, [0, 1, 2, 0]):
                call[0](*call[1:])
            hall = Hall(self.rules, STORE, [1, 2])
            hall.begin(deed)
            hall.waits_for(deed)
            self.assertEqual(hall.finish(), [run(self.rules, deed, STORE, [1, 2])[0]])

    def test_and_tells_of_them_what_it_should(self):
        for deed in self.deep:
            told = run(self.rules, deed, STORE, [1, 2])
            marks = touches(self.rules, deed)
            self.assertTrue(all(mark_of(touch) in marks for touch in trace(self.rules, deed, STORE, [1, 2])))
            self.assertEqual(run((), put_in(self.rules, deed), STORE, [1, 2]), told)
            self.assertEqual(touches((), put_in(self.rules, deed)), marks)
            self.assertEqual(run(self.rules, tidied(self.rules, deed), STORE, [1, 2]), told)
            self.assertEqual(written(deed).count("( "), size_of(deed))


if __name__ == "__main__":
    unittest.main()
