import unittest

from shelfwork.errors import BadKinds, Clash, NoDeed, NotDone, NoText, WorkError

BELOW = (BadKinds, NoDeed, Clash, NotDone, NoText)


class Errors(unittest.TestCase):
    def test_any_refusal_is_a_value_error(self):
        self.assertEqual(WorkError.__bases__, (ValueError,))

    def test_each_stands_below_work_error(self):
        for error in BELOW:
            self.assertTrue(issubclass(error, WorkError), error)

    def test_none_stands_below_another(self):
        for error in BELOW:
            for other in BELOW:
                self.assertEqual(issubclass(error, other), error == other, (error, other))

    def test_each_can_be_raised_and_taken_by_name(self):
        for error in BELOW + (WorkError,):
            with self.assertRaises(error):
                raise error("some words")


if __name__ == "__main__":
    unittest.main()
