import unittest

from tornsaves import errors

NAMES = [
    "InvalidProgram", "InvalidStore", "NotInput", "InvalidPlan", "InvalidNumber", "InvalidCrashes", "TooLarge",
    "InvalidWeights", "InvalidPositions", "InvalidMove", "ParseError", "DecodeError",
]


class Errors(unittest.TestCase):
    def test_base_is_a_value_error(self):
        self.assertEqual(errors.PlanError.__bases__, (ValueError,))

    def test_all_others_are_direct_subclasses(self):
        for name in NAMES:
            self.assertEqual(getattr(errors, name).__bases__, (errors.PlanError,), name)
        found = [name for name, value in vars(errors).items() if isinstance(value, type)]
        self.assertEqual(sorted(found), sorted(NAMES + ["PlanError"]))

    def test_attributes_are_set_on_each_object(self):
        for made, name in [
            (errors.InvalidCrashes, "index"), (errors.ParseError, "line"), (errors.DecodeError, "offset"),
        ]:
            self.assertIn(name, vars(made()))
            self.assertEqual(getattr(made(3), name), 3)
            self.assertIsInstance(str(made(3)), str)
        self.assertIsNone(errors.InvalidCrashes(None).index)
        self.assertIsNone(errors.DecodeError(None).offset)

    def test_are_raised_and_caught_as_plan_errors(self):
        for name in NAMES:
            with self.assertRaises(errors.PlanError):
                raise getattr(errors, name)()
