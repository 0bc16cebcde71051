import inspect
import unittest

from shelfwork import beside, deeds, halls, kinds, putting, running, texts, tidying, touches
from helper import ALL_MARKS, FIFTEEN, ONE, RULES, read, say, write

FUNCTIONS = (
    (deeds, "is_rules", 1),
    (deeds, "is_deed", 2),
    (deeds, "size_of", 1),
    (running, "run", 4),
    (running, "trace", 4),
    (running, "run_all", 4),
    (running, "run_by", 5),
    (touches, "touches", 2),
    (touches, "rule_touches", 2),
    (touches, "reads_of", 2),
    (touches, "writes_of", 2),
    (touches, "is_quiet", 2),
    (touches, "untouched", 2),
    (kinds, "is_kind", 2),
    (kinds, "is_less", 2),
    (kinds, "fits", 3),
    (kinds, "joined", 2),
    (kinds, "both_of", 2),
    (kinds, "too_much", 3),
    (kinds, "least_kinds", 1),
    (kinds, "first_fault", 2),
    (kinds, "told_touches", 3),
    (beside, "may_go", 3),
    (beside, "all_may_go", 2),
    (beside, "is_order", 3),
    (beside, "order_matters", 5),
    (beside, "goes_twice", 2),
    (beside, "clash", 3),
    (beside, "clashing", 2),
    (beside, "layers", 2),
    (beside, "run_in", 5),
    (putting, "put_in", 2),
    (tidying, "tidied", 2),
    (halls, "Hall", 3),
    (texts, "written", 1),
    (texts, "read", 2),
)

# The methods of a hall, and how many arguments they have behind self.
METHODS = {"begin": 1, "going": 0, "waits_for": 1, "turn": 1, "worth": 1, "finish": 0, "store": 0, "said": 0}

STORE = (1, 2, 3, 4)


def row_of_all():
    deed = ("ask",)
    for shelf in "abcd":
        deed = ("then", ("say", ("write", shelf, read(shelf))), deed)
    return deed


class Interface(unittest.TestCase):
    def test_each_function_has_its_arguments(self):
        for module, name, count in FUNCTIONS:
            parameters = inspect.signature(getattr(module, name)).parameters.values()
            self.assertEqual(len(parameters), count, name)
            for parameter in parameters:
                self.assertIs(parameter.default, inspect.Parameter.empty, name)
                self.assertIs(parameter.kind, inspect.Parameter.POSITIONAL_OR_KEYWORD, name)

    def test_each_method_of_a_hall_has_its_arguments(self):
        self.assertIs(type(halls.Hall), type)
        for name, count in METHODS.items():
            parameters = inspect.signature(getattr(halls.Hall, name)).parameters.values()
            self.assertEqual(len(parameters), count + 1, name)
            for parameter in parameters:
                self.assertIs(parameter.default, inspect.Parameter.empty, name)
                self.assertIs(parameter.kind, inspect.Parameter.POSITIONAL_OR_KEYWORD, name)

    def test_truths_are_told_as_truths(self):
        for thing in ((), RULES, (1,), None, [], "text"):
            self.assertIs(type(deeds.is_rules(thing)), bool, thing)
        for thing in tuple(FIFTEEN.values()) + ((), None, [], "text", 0):
            self.assertIs(type(deeds.is_deed(RULES, thing)), bool, thing)

    def test_truths_of_touches_kinds_and_deeds_side_by_side(self):
        for deed in (ONE, read("a"), write("a", 1), say(1), ("ask",)):
            self.assertIs(type(touches.is_quiet((), deed)), bool)
            self.assertIs(type(beside.goes_twice((), deed)), bool)
            for kind in ([], [("say",)], ALL_MARKS):
                self.assertIs(type(kinds.fits((), deed, kind)), bool)
            for other in (ONE, write("a", 2), say(1)):
                self.assertIs(type(beside.may_go((), deed, other)), bool)
                self.assertIs(type(beside.all_may_go((), [deed, other])), bool)
                self.assertIs(type(beside.order_matters((), deed, other, STORE, [])), bool)
                for order in ([], [0, 1], [1, 0], [0, 0]):
                    self.assertIs(type(beside.is_order((), [deed, other], order)), bool)
        for thing in ([], ALL_MARKS, None, (), "text", [None]):
            self.assertIs(type(kinds.is_kind(thing, ("f",))), bool)
        for one, other in (([], []), (ALL_MARKS, []), ([], ALL_MARKS)):
            self.assertIs(type(kinds.is_less(one, other)), bool)

    def test_lists_of_touches_kinds_and_deeds_side_by_side(self):
        handed = RULES[1][1]
        told_kinds = [[], [("do", each) for each in handed]]
        for deed in (ONE, row_of_all()):
            told = [touches.touches(RULES, deed), touches.reads_of(RULES, deed), touches.writes_of(RULES, deed),
                    touches.untouched(RULES, deed), kinds.too_much(RULES, deed, []),
                    kinds.told_touches(RULES, told_kinds, deed), beside.clash(RULES, deed, deed),
                    beside.clashing(RULES, [deed, deed]), beside.layers(RULES, [deed, deed])]
            self.assertEqual([type(each) for each in told], [list] * 9)
            self.assertTrue(all(type(mark) is tuple for mark in told[0] + told[4] + told[5] + told[7]))
            self.assertTrue(all(type(each) is str for each in told[1] + told[2] + told[3] + told[6]))
            self.assertTrue(all(type(each) is list for each in told[8]))
        for told in (touches.rule_touches(RULES, 0), kinds.joined([], []), kinds.both_of([], []),
                     kinds.least_kinds(RULES), kinds.least_kinds(RULES)[0]):
            self.assertIs(type(told), list)
        told = beside.run_in((), [ONE, say(1)], [1, 0], STORE, [])
        self.assertIs(type(told), tuple)
        self.assertEqual([type(part) for part in told], [list, tuple, list, int])
        told = kinds.first_fault(RULES, [[], []])
        self.assertEqual([type(told), type(told[0]), type(told[1])], [tuple, int, list])
        self.assertIsNone(kinds.first_fault(RULES, told_kinds))

    def test_deeds_and_texts_that_are_told(self):
        for deed in (ONE, row_of_all(), ("call", 1, (("then", ONE, ONE),), (say(1),))):
            for told in (putting.put_in(RULES, deed), tidying.tidied(RULES, deed),
                         texts.read(RULES, texts.written(deed))):
                self.assertIs(type(told), tuple)
                self.assertTrue(deeds.is_deed(RULES, told))
            self.assertIs(type(texts.written(deed)), str)

    def test_kinds_of_what_a_hall_tells(self):
        hall = halls.Hall(RULES, STORE, [5])
        self.assertEqual([hall.begin(deed) for deed in (ONE, read("a"), say(1), ("ask",))], [0, 1, 2, 3])
        self.assertEqual([type(hall.begin(ONE)), type(hall.worth(0))], [int, int])
        for touch in (hall.turn(1), hall.turn(2), hall.turn(3)):
            self.assertIs(type(touch), tuple)
            self.assertEqual([type(touch[0]), type(touch[-1])], [str, int])
        told = [hall.going(), hall.waits_for(ONE), hall.finish(), hall.said(), hall.store()]
        self.assertEqual([type(each) for each in told], [list, list, list, list, tuple])
        self.assertTrue(all(type(worth) is int for worth in told[2] + told[3]))

    def test_kinds_of_what_is_told(self):
        self.assertIs(type(deeds.size_of(ONE)), int)
        self.assertIs(type(running.trace((), ONE, (0, 0, 0, 0), [])), list)
        told = running.run((), ("less", ONE, ONE), (0, 0, 0, 0), [])
        self.assertEqual([type(part) for part in told], [int, tuple, list, int])
        told = running.run_all((), [ONE], (0, 0, 0, 0), [])
        self.assertEqual([type(part) for part in told], [list, tuple, list, int])
        told = running.run_by((), [ONE], (0, 0, 0, 0), [], [])
        self.assertEqual([type(part) for part in told], [list, tuple, list, int])
        self.assertIs(type(told), tuple)


if __name__ == "__main__":
    unittest.main()
