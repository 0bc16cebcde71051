import copy
import itertools
import unittest

from shelfwork.deeds import is_deed, is_rules, size_of
from helper import FIFTEEN, ONE, RULES, TWO, Chance, chain, comb, rules_with

# No worth, no name, no shelf, no number of a rule, no tuple of one deed, and no deed.
WRONG = (
    True, False, None, "", "text", "1", -1, 1009, 10 ** 30, [], (), ((),), [ONE], ["number", 1], ("number",),
    ("number", 1, 1), ("number", True), ("number", -1), ("number", 1009), ("numbers", 1), (ONE, TWO), ("ask", ()),
    (None,), (("number",),), "e", "A", "x1000",
)

GOOD_FIGURES = ("", "0", "7", "00", "42", "007", "000", "999")
BAD_FIGURES = ("0000", "1234", "a", "x", "1a", "a1", "-1", "+1", " ", " 1", "1 ", "1\n", "_", "1_0", ".", "\u00b2",
               "\u0663", "\uff11", "12x")


def stands(deed):
    """Whether it is a deed where x, p and f are known, by RULES."""
    return is_rules(rules_with(("own", "p", ONE, deed)))


def known_by(word, name):
    """Rules in which the name stands where it is known."""
    if word == "name":
        return (((name,), (), ("name", name)),)
    if word == "do":
        return (((), (name,), ("do", name)),)
    return (((), (), ("own", name, ONE, ("write", name, ("read", name)))),)


class FifteenTuples(unittest.TestCase):
    def test_each_is_a_deed_where_all_is_known(self):
        self.assertEqual(len(FIFTEEN), 15)
        for word, deed in FIFTEEN.items():
            self.assertEqual(word, deed[0])
            self.assertIs(stands(deed), True, deed)

    def test_each_without_names_is_a_deed_by_itself(self):
        for word, deed in FIFTEEN.items():
            self.assertIs(is_deed(RULES, deed), word not in ("name", "read", "do"), deed)

    def test_a_part_missing(self):
        for deed in FIFTEEN.values():
            for place in range(len(deed)):
                self.assertIs(stands(deed[:place] + deed[place + 1:]), False, (deed, place))

    def test_a_part_too_many(self):
        for deed in FIFTEEN.values():
            for more in (ONE, TWO, (), 1, "x", None):
                for place in range(len(deed) + 1):
                    self.assertIs(stands(deed[:place] + (more,) + deed[place:]), False, (deed, more, place))

    def test_a_list_for_a_tuple(self):
        for deed in FIFTEEN.values():
            self.assertIs(stands(list(deed)), False, deed)
            for place, part in enumerate(deed):
                if isinstance(part, tuple):
                    self.assertIs(stands(deed[:place] + (list(part),) + deed[place + 1:]), False, (deed, place))

    def test_a_part_of_another_kind(self):
        for deed in FIFTEEN.values():
            for place, wrong in itertools.product(range(len(deed)), WRONG):
                self.assertIs(stands(deed[:place] + (wrong,) + deed[place + 1:]), False, (deed, place, wrong))

    def test_a_wrong_deed_in_any_part(self):
        for deed in FIFTEEN.values():
            for place, wrong in itertools.product(range(1, len(deed)), WRONG):
                inner = deed[:place] + (wrong,) + deed[place + 1:]
                for outer in (("say", inner), ("then", ONE, inner), ("if", ONE, TWO, inner), ("let", "y", inner, ONE),
                              ("own", "q", ONE, inner), ("call", 1, (inner,), (ONE,)), ("call", 1, (ONE,), (inner,))):
                    self.assertIs(stands(outer), False, outer)

    def test_other_first_words(self):
        for word in ("numbers", "Number", "", "sub", "loops", " ask", None, 0, True, [], ["ask"], ("ask",)):
            for rest in ((), (1,), ("x",), (ONE,), (ONE, TWO), ("x", ONE, TWO)):
                self.assertIs(stands((word,) + rest), False, (word, rest))

    def test_worths(self):
        for worth in (0, 1, 500, 1007, 1008):
            self.assertIs(is_deed((), ("number", worth)), True, worth)
        for worth in (-1, -1008, 1009, 1010, 10 ** 20, True, False, None, "1", "", (), [], (1,)):
            self.assertIs(is_deed((), ("number", worth)), False, worth)


class Names(unittest.TestCase):
    LETTERS = (("name", "xyz"), ("own", "pq"), ("do", "fg"))

    def test_none_to_three_figures(self):
        for word, letters in self.LETTERS:
            for letter, figures in itertools.product(letters, GOOD_FIGURES):
                self.assertIs(is_rules(known_by(word, letter + figures)), True, letter + figures)

    def test_four_figures_or_something_else_behind(self):
        for word, letters in self.LETTERS:
            for letter, figures in itertools.product(letters, BAD_FIGURES):
                self.assertIs(is_rules(known_by(word, letter + figures)), False, letter + figures)

    def test_other_letters(self):
        for word, letters in self.LETTERS:
            for letter in "abcdefghijklmnopqrstuvwxyzXYZPQFG01 -_":
                for figures in ("", "1"):
                    self.assertIs(is_rules(known_by(word, letter + figures)), letter in letters, (word, letter))

    def test_no_letter(self):
        for word, letters in self.LETTERS:
            for name in ("", "1", "12", letters, None, 1, True, (), (letters[0],), [letters[0]]):
                self.assertIs(is_rules(known_by(word, name)), False, (word, name))

    def test_let_takes_names_alone(self):
        for name in ("x", "y0", "z999"):
            self.assertIs(is_deed((), ("let", name, ONE, ("name", name))), True, name)
        for name in ("p", "f", "a", "w", "x1234", "", None, 1, ["x"], ("x",)):
            self.assertIs(is_deed((), ("let", name, ONE, ONE)), False, name)

    def test_own_takes_own_shelves_alone(self):
        for name in ("p", "q0", "p999"):
            self.assertIs(is_deed((), ("own", name, ONE, ("read", name))), True, name)
        for name in ("x", "f", "a", "b", "q1234", "", None, 1, ["p"], ("p",)):
            self.assertIs(is_deed((), ("own", name, ONE, ONE)), False, name)

    def test_shelves(self):
        for shelf in "abcd":
            self.assertIs(is_deed((), ("read", shelf)), True, shelf)
            self.assertIs(is_deed((), ("write", shelf, ONE)), True, shelf)
        for shelf in ("e", "A", "a1", "ab", "abcd", "", "p", "q", "x", "f", None, 0, True, ["a"], ("a",)):
            self.assertIs(is_deed((), ("read", shelf)), False, shelf)
            self.assertIs(is_deed((), ("write", shelf, ONE)), False, shelf)


class WhereKnown(unittest.TestCase):
    def holds(self, *things):
        for thing in things:
            self.assertIs(stands(thing), True, thing)

    def fails(self, *things):
        for thing in things:
            self.assertIs(stands(thing), False, thing)

    def test_nothing_is_known_at_the_top_of_a_deed(self):
        for deed in (("name", "x"), ("read", "p"), ("write", "p", ONE), ("do", "f")):
            self.assertIs(is_deed(RULES, deed), False, deed)
            self.assertIs(is_deed((), ("say", deed)), False, deed)

    def test_a_name_is_known_in_the_body_of_its_let_alone(self):
        name = ("name", "y")
        self.holds(("let", "y", ONE, name), ("let", "y", ONE, ("say", ("add", name, name))))
        self.fails(name, ("let", "y", name, ONE), ("then", ("let", "y", ONE, ONE), name),
                   ("then", name, ("let", "y", ONE, ONE)), ("let", "y0", ONE, name), ("let", "z", ONE, name))
        self.holds(("let", "y", ONE, ("let", "y", name, name)), ("let", "y", ONE, ("let", "z", name, name)))

    def test_an_own_shelf_is_known_in_the_body_of_its_own_alone(self):
        for use in (("read", "q"), ("write", "q", ONE)):
            self.holds(("own", "q", ONE, use), ("own", "q", ONE, ("say", ("add", use, use))))
            self.fails(use, ("own", "q", use, ONE), ("then", ("own", "q", ONE, ONE), use),
                       ("then", use, ("own", "q", ONE, ONE)), ("own", "q0", ONE, use), ("own", "p", ONE, use))
            self.holds(("own", "q", ONE, ("own", "q", use, use)))

    def test_what_is_written_stands_where_all_is_known_too(self):
        self.holds(("write", "p", ("name", "x")), ("write", "a", ("read", "p")))
        self.fails(("write", "p", ("name", "y")), ("write", "a", ("read", "q")))

    def test_of_a_rule_its_names_and_handed_deeds_are_known(self):
        for names, handed in ((("x", "y"), ("f", "g")), (("y", "x"), ("g", "f"))):
            for deed in (("name", "x"), ("name", "y"), ("do", "f"), ("do", "g")):
                self.assertIs(is_rules(rules_with(deed, names, handed)), True, deed)
        for deed in (("name", "z"), ("name", "x0"), ("do", "f0"), ("read", "p"), ("write", "q", ONE)):
            self.assertIs(is_rules(rules_with(deed, ("x", "y"), ("f", "g"))), False, deed)

    def test_the_names_of_one_rule_are_not_known_in_another(self):
        self.assertIs(is_rules(((("x",), ("f",), ONE), ((), (), ("name", "x")))), False)
        self.assertIs(is_rules(((("x",), ("f",), ONE), ((), (), ("do", "f")))), False)

    def test_known_things_of_one_sort_are_not_known_as_another(self):
        self.fails(("name", "p"), ("name", "f"), ("read", "x"), ("read", "f"), ("write", "x", ONE), ("do", "x"),
                   ("do", "p"), ("name", "a"), ("do", "a"))

    def test_worths_and_handed_deeds_of_a_call_know_what_is_known_there(self):
        for use in (("name", "x"), ("read", "p"), ("do", "f")):
            self.holds(("call", 1, (use,), (use,)))
        for use in (("name", "y"), ("read", "q"), ("do", "g")):
            self.fails(("call", 1, (use,), (ONE,)), ("call", 1, (ONE,), (use,)))
            self.assertIs(is_deed(RULES, ("call", 1, (ONE,), (use,))), False, use)

    def test_what_the_called_rule_knows_is_not_known_in_what_it_is_handed(self):
        self.assertIs(is_deed(RULES, ("call", 1, (ONE,), (("name", "x"),))), False)
        self.assertIs(is_deed(RULES, ("call", 1, (("name", "x"),), (ONE,))), False)


class Calls(unittest.TestCase):
    BY = (((), (), ONE), (("x",), ("f",), ONE), (("x", "y"), (), ONE), ((), ("f", "g"), ONE))

    def test_as_many_worths_and_handed_deeds_as_the_rule_has(self):
        for number, worths, handed in itertools.product(range(4), range(4), range(4)):
            deed = ("call", number, (ONE,) * worths, (TWO,) * handed)
            rule = self.BY[number]
            expected = worths == len(rule[0]) and handed == len(rule[1])
            self.assertIs(is_deed(self.BY, deed), expected, deed)

    def test_the_number_of_a_rule(self):
        for number in (4, 5, 100, -1, -4, True, False, None, "0", "", (), [], (0,)):
            self.assertIs(is_deed(self.BY, ("call", number, (), ())), False, number)
        self.assertIs(is_deed((), ("call", 0, (), ())), False)
        self.assertIs(is_deed(self.BY, ("call", 0, (), ())), True)
        # True and False are no numbers, where rules 0 and 1 could be called like this
        alike = (((), (), ONE), ((), (), ONE))
        self.assertIs(is_deed(alike, ("call", True, (), ())), False)
        self.assertIs(is_deed(alike, ("call", False, (), ())), False)

    def test_lists_for_its_tuples(self):
        self.assertIs(is_deed(self.BY, ("call", 0, [], ())), False)
        self.assertIs(is_deed(self.BY, ("call", 0, (), [])), False)
        self.assertIs(is_deed(self.BY, ("call", 1, [ONE], (ONE,))), False)
        self.assertIs(is_deed(self.BY, ("call", 1, (ONE,), [ONE])), False)
        self.assertIs(is_deed(self.BY, ("call", 1, ONE, (ONE,))), False)
        self.assertIs(is_deed(self.BY, ("call", 1, "x", (ONE,))), False)


class Rules(unittest.TestCase):
    PLAIN = ((), (), ONE)

    def test_none_to_four(self):
        for count in range(8):
            self.assertIs(is_rules((self.PLAIN,) * count), count <= 4, count)

    def test_up_to_two_unlike_names(self):
        for names in ((), ("x",), ("x", "y"), ("y", "x"), ("x", "x0"), ("x0", "x00"), ("z999", "z99")):
            self.assertIs(is_rules(((names, (), ONE),)), True, names)
        for names in (("x", "y", "z"), ("x", "x"), ("z12", "z12"), ("x", "y", "x"), ("x", "p"), ("f",), ("p",), ("a",),
                      ("x", None), (None,), (1,), (True,), (["x"],), (["x"], ["x"]), (("x",),), ("x1234",), ("",),
                      ["x"], [], "x", "", "xy", None, 0, True):
            self.assertIs(is_rules(((names, (), ONE),)), False, names)

    def test_up_to_two_unlike_handed_deeds(self):
        for handed in ((), ("f",), ("f", "g"), ("g", "f"), ("f", "f0"), ("f0", "f00"), ("g999", "g99")):
            self.assertIs(is_rules((((), handed, ONE),)), True, handed)
        for handed in (("f", "g", "f0"), ("f", "f"), ("g12", "g12"), ("f", "g", "f"), ("f", "x"), ("x",), ("p",), ("a",),
                       ("f", None), (None,), (1,), (True,), (["f"],), (["f"], ["f"]), (("f",),), ("f1234",), ("",),
                       ["f"], [], "f", "", "fg", None, 0, True):
            self.assertIs(is_rules((((), handed, ONE),)), False, handed)

    def test_a_rule_has_three_parts(self):
        for rule in ((), ((),), ((), ()), ((), (), ONE, ONE), ((), (), ONE, ()), [(), (), ONE], (ONE, (), ()), None, 1,
                     "rule", ONE, ((), (), None), ((), (), ())):
            self.assertIs(is_rules((rule,)), False, rule)
            self.assertIs(is_rules((self.PLAIN, rule)), False, rule)
            self.assertIs(is_rules((rule, self.PLAIN)), False, rule)

    def test_a_body_calls_only_lesser_numbers(self):
        for number, called in itertools.product(range(4), range(-1, 6)):
            body = ("say", ("call", called, (), ()))
            rules = (self.PLAIN,) * number + (((), (), body),) + (self.PLAIN,) * (3 - number)
            self.assertIs(is_rules(rules), 0 <= called < number, (number, called))

    def test_a_body_calls_as_the_lesser_rule_asks(self):
        lesser = (("x",), ("f", "g"), ONE)
        self.assertIs(is_rules((lesser, ((), (), ("call", 0, (ONE,), (ONE, TWO))))), True)
        self.assertIs(is_rules((lesser, ((), (), ("call", 0, (ONE,), (ONE,))))), False)
        self.assertIs(is_rules((lesser, ((), (), ("call", 0, (), (ONE, TWO))))), False)

    def test_a_deed_calls_all_rules(self):
        rules = (self.PLAIN,) * 4
        for number in range(-2, 7):
            self.assertIs(is_deed(rules, ("call", number, (), ())), 0 <= number < 4, number)

    def test_sixty_deeds_of_a_body_and_of_a_deed(self):
        for size in (1, 2, 59, 60, 61, 62, 100):
            for deed in (chain(size), ("say", comb(size - 1)) if size % 2 == 0 else comb(size)):
                self.assertEqual(size_of(deed), size)
                self.assertIs(is_deed((), deed), size <= 60, size)
                for number in range(4):
                    rules = (self.PLAIN,) * number + (((), (), deed),)
                    self.assertIs(is_rules(rules), size <= 60, size)

    def test_sixty_deeds_count_those_in_calls(self):
        for size in (57, 58, 59, 60, 61):
            inside = size - 2
            self.assertIs(is_deed(RULES, ("call", 1, (chain(inside),), (ONE,))), size <= 60, size)
            self.assertIs(is_deed(RULES, ("call", 1, (ONE,), (chain(inside),))), size <= 60, size)

    def test_sixty_deeds_do_not_count_those_of_called_rules(self):
        rules = (((), (), chain(60)), ((), (), ("then", ("call", 0, (), ()), chain(58))))
        self.assertIs(is_rules(rules), True)
        self.assertIs(is_deed(rules, ("add", ("call", 1, (), ()), chain(58))), True)

    def test_far_too_many_are_answered(self):
        self.assertIs(is_deed((), chain(20000)), False)
        self.assertIs(is_rules((((), (), chain(20000)),)), False)
        doubled = ONE
        for _ in range(200):
            doubled = ("add", doubled, doubled)
        self.assertIs(is_deed((), doubled), False)


class AnyThing(unittest.TestCase):
    def things(self):
        inner = [0, 1, -1, 1009, True, False, None, "", "x", "number", "ask", "call", (), [], ONE, ("ask",), RULES]
        for _ in range(10):
            yield from inner
            inner = [make(thing) for thing in inner[:24] for make in (
                lambda thing: (thing,), lambda thing: [thing], lambda thing: ((), (), thing),
                lambda thing: ("say", thing), lambda thing: ("call", 0, (thing,), thing))]
            inner = inner[::3]
        yield from inner

    def test_is_answered_true_or_false(self):
        count = 0
        for thing in self.things():
            count += 1
            before = copy.deepcopy(thing)
            self.assertIn(is_rules(thing), (True, False))
            self.assertIs(type(is_rules(thing)), bool)
            for rules in ((), RULES):
                self.assertIs(type(is_deed(rules, thing)), bool)
            self.assertEqual(repr(thing), repr(before))
        self.assertGreater(count, 200)

    def test_chance_tuples_of_deed_words(self):
        chance = Chance(3).chance
        atoms = [0, 1, 1008, True, None, "x", "p", "f", "a", (), []] + list(FIFTEEN)
        for _ in range(3000):
            things = list(atoms)
            for _ in range(10):
                make = chance.choice((tuple, tuple, tuple, list))
                things.append(make(chance.choice(things) for _ in range(chance.randrange(5))))
            for thing in things[-10:]:
                self.assertIs(type(is_rules(thing)), bool)
                self.assertIs(type(is_deed(RULES, thing)), bool)

    def test_no_rules(self):
        for thing in (None, 0, 1, True, False, "", "rules", [], [((), (), ONE)], ((),), (((), (), ONE), None), ONE,
                      ((((), (), ONE),),)):
            self.assertIs(is_rules(thing), False, thing)

    def test_no_deed(self):
        for thing in (None, 0, 1, True, False, "", "ask", "number", [], (), ["ask"], [ONE], (ONE,), ((),), RULES):
            self.assertIs(is_deed(RULES, thing), False, thing)

    def test_chance_rules_and_deeds_hold(self):
        small = 0
        for seed in range(300):
            chance = Chance(seed)
            rules = chance.rules()
            self.assertIs(is_rules(rules), all(size_of(rule[2]) <= 60 for rule in rules), rules)
            deed = chance.deed(rules, (), 3)
            self.assertIs(is_deed(rules, deed), size_of(deed) <= 60, (rules, deed))
            small += is_deed(rules, deed) and is_rules(rules)
        self.assertGreater(small, 200)


class Sizes(unittest.TestCase):
    def test_each_of_the_fifteen(self):
        sizes = {"number": 1, "name": 1, "read": 1, "write": 2, "add": 3, "less": 3, "then": 3, "if": 4, "loop": 3,
                 "let": 3, "own": 3, "say": 2, "ask": 1, "do": 1, "call": 3}
        for word, deed in FIFTEEN.items():
            self.assertEqual(size_of(deed), sizes[word], deed)

    def test_each_part_counts_with_all_in_it(self):
        four = ("add", ONE, ("say", ONE))
        self.assertEqual(size_of(four), 4)
        cases = ((("write", "a", four), 5), (("say", four), 5), (("add", four, ONE), 6), (("less", ONE, four), 6),
                 (("then", four, four), 9), (("if", four, ONE, ONE), 7), (("if", ONE, four, ONE), 7),
                 (("if", ONE, ONE, four), 7), (("loop", four, ONE), 6), (("loop", ONE, four), 6),
                 (("let", "x", four, ONE), 6), (("let", "x", ONE, four), 6), (("own", "p", four, ONE), 6),
                 (("own", "p", ONE, four), 6))
        for deed, size in cases:
            self.assertEqual(size_of(deed), size, deed)

    def test_deeds_of_a_call(self):
        four = ("add", ONE, ("say", ONE))
        self.assertEqual(size_of(("call", 0, (), ())), 1)
        self.assertEqual(size_of(("call", 0, (four,), ())), 5)
        self.assertEqual(size_of(("call", 0, (), (four,))), 5)
        self.assertEqual(size_of(("call", 0, (four, ONE), (ONE, four))), 11)

    def test_more_than_sixty(self):
        for size in (61, 100, 999, 20001):
            self.assertEqual(size_of(chain(size)), size)
            self.assertEqual(size_of(comb(size | 1)), size | 1)


if __name__ == "__main__":
    unittest.main()
