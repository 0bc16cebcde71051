import inspect
import unittest

from shelfwork import deeds, running
from helper import FIFTEEN, ONE, RULES

FUNCTIONS = (
    (deeds, "is_rules", 1),
    (deeds, "is_deed", 2),
    (deeds, "size_of", 1),
    (running, "run", 4),
    (running, "trace", 4),
    (running, "run_all", 4),
    (running, "run_by", 5),
)


class Interface(unittest.TestCase):
    def test_each_function_has_its_arguments(self):
        for module, name, count in FUNCTIONS:
            parameters = inspect.signature(getattr(module, name)).parameters.values()
            self.assertEqual(len(parameters), count, name)
            for parameter in parameters:
                self.assertIs(parameter.default, inspect.Parameter.empty, name)
                self.assertIs(parameter.kind, inspect.Parameter.POSITIONAL_OR_KEYWORD, name)

    def test_truths_are_told_as_truths(self):
        for thing in ((), RULES, (1,), None, [], "text"):
            self.assertIs(type(deeds.is_rules(thing)), bool, thing)
        for thing in tuple(FIFTEEN.values()) + ((), None, [], "text", 0):
            self.assertIs(type(deeds.is_deed(RULES, thing)), bool, thing)

    def test_kinds_of_what_is_told(self):
        self.assertIs(type(deeds.size_of(ONE)), int)
        self.assertIs(type(running.trace((), ONE, (0, 0, 0, 0), [])), list)
        told = running.run((), ("less", ONE, ONE), (0, 0, 0, 0), [])
        self.assertEqual([type(part) for part in told], [int, tuple, list, int])
        told = running.run_all((), [ONE], (0, 0, 0, 0), [])
        self.assertEqual([type(part) for part in told], [list, tuple, list, int])
        told = running.run_by((), [ONE], (0, 0, 0, 0), [], [])
        self.assertEqual([type(part) for part in told], [list, tuple, list, int])
        self.assertIs(type(told), tuple)


if __name__ == "__main__":
    unittest.main()
