"""[4]: the errors."""

import unittest

from sumlives import errors
from sumlives.errors import SumError

ARGUMENTS = {
    "InvalidVector": None,
    "InvalidText": "at",
    "InvalidRow": "part",
    "InvalidBook": "word",
    "InvalidLife": "at",
    "InvalidCommand": None,
    "NoStatement": "at",
    "NoTotal": "name",
    "NoEvent": "name",
    "Mismatch": None,
    "Refused": "word",
}
VALUES = [0, -7, 10 ** 30, True, False, None, "", "sum", "two words", (), (1, "a"), [], [1, [2, (3,)]], ([None],)]


class Errors(unittest.TestCase):
    def test_sum_error_is_a_value_error(self):
        self.assertEqual(SumError.__bases__, (ValueError,))

    def test_each_error_has_this_one_base(self):
        for name in ARGUMENTS:
            with self.subTest(name):
                self.assertEqual(getattr(errors, name).__bases__, (SumError,))
                self.assertEqual(getattr(errors, name).__name__, name)

    def test_there_are_no_others(self):
        found = [name for name, value in vars(errors).items() if isinstance(value, type)]
        self.assertEqual(sorted(found), sorted([*ARGUMENTS, "SumError"]))

    def test_errors_without_arguments(self):
        for name, argument in ARGUMENTS.items():
            if argument is None:
                with self.subTest(name), self.assertRaises(SumError) as caught:
                    raise getattr(errors, name)()
                self.assertEqual(vars(caught.exception), {})

    def test_an_argument_by_place_is_kept_itself(self):
        for name, argument in ARGUMENTS.items():
            if argument is not None:
                for value in VALUES:
                    with self.subTest(name, value=value), self.assertRaises(SumError) as caught:
                        raise getattr(errors, name)(value)
                    self.assertEqual(list(vars(caught.exception)), [argument])
                    self.assertIs(getattr(caught.exception, argument), value)

    def test_an_argument_by_name_is_kept_itself(self):
        for name, argument in ARGUMENTS.items():
            if argument is not None:
                for value in VALUES:
                    with self.subTest(name, value=value), self.assertRaises(SumError) as caught:
                        raise getattr(errors, name)(**{argument: value})
                    self.assertEqual(list(vars(caught.exception)), [argument])
                    self.assertIs(getattr(caught.exception, argument), value)

    def test_an_argument_is_needed_where_there_is_one(self):
        for name, argument in ARGUMENTS.items():
            if argument is not None:
                with self.subTest(name), self.assertRaises(TypeError):
                    getattr(errors, name)()

    def test_one_error_is_not_caught_as_another(self):
        made = [getattr(errors, name)(*([] if argument is None else [1])) for name, argument in ARGUMENTS.items()]
        for error in made:
            fitting = [name for name in ARGUMENTS if isinstance(error, getattr(errors, name))]
            self.assertEqual(fitting, [error.__class__.__name__])


if __name__ == "__main__":
    unittest.main()
