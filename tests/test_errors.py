"""[16]: the error classes."""

import inspect
import unittest

from stackworks import errors

FIELDS = {
    "InvalidText": ("index",), "InvalidUnits": ("line", "index"), "TooHigh": ("limit",), "TooLarge": ("limit",),
    "TooDeep": ("limit",), "ShortStack": ("least",), "Lost": ("depth",),
}
WITH_MESSAGE = """InvalidProgram NotPlain InvalidTimes InvalidStep InvalidWord InvalidName InvalidStack
    InvalidChoices InvalidEffect InvalidDepth InvalidSource NotBalanced InvalidIndex InvalidPile NotReachable
    NoSuchStep InvalidValue InvalidOperation Nothing InvalidCommand""".split()


class ErrorsTest(unittest.TestCase):
    def test_stack_error_is_a_value_error(self):
        self.assertEqual(errors.StackError.__bases__, (ValueError,))

    def test_all_others_are_direct_subclasses(self):
        for name in [*FIELDS, *WITH_MESSAGE]:
            self.assertEqual(getattr(errors, name).__bases__, (errors.StackError,), name)

    def test_there_are_no_other_classes(self):
        names = [name for name, value in vars(errors).items() if inspect.isclass(value)]
        self.assertEqual(sorted(names), sorted(["StackError", *FIELDS, *WITH_MESSAGE]))

    def test_fields_are_kept(self):
        for name, fields in FIELDS.items():
            for first in (None, 0, 4, 10 ** 300):
                values = [first, 7][:len(fields)]
                for error in (getattr(errors, name)(*values), getattr(errors, name)(**dict(zip(fields, values)))):
                    self.assertEqual([getattr(error, field) for field in fields], values, name)
                    self.assertIsInstance(str(error), str)

    def test_fields_are_needed(self):
        for name, fields in FIELDS.items():
            with self.assertRaises(TypeError):
                getattr(errors, name)()
            with self.assertRaises(TypeError):
                getattr(errors, name)(*range(len(fields) + 1))

    def test_the_others_take_a_message(self):
        for name in ["StackError", *WITH_MESSAGE]:
            self.assertEqual(str(getattr(errors, name)("told so")), "told so", name)


if __name__ == "__main__":
    unittest.main()
