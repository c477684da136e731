import unittest

from everyplan import errors
from tests.helper import REFUSALS


class Errors(unittest.TestCase):
    def test_all_are_there_straight_under_plan_error(self):
        self.assertEqual(errors.PlanError.__bases__, (ValueError,))
        for name in REFUSALS:
            self.assertEqual(getattr(errors, name).__bases__, (errors.PlanError,), name)

    def test_none_is_under_another(self):
        for name in REFUSALS:
            for other in REFUSALS:
                under = issubclass(getattr(errors, name), getattr(errors, other))
                self.assertEqual(under, name == other, (name, other))

    def test_values(self):
        self.assertEqual(errors.NoTurn(3).place, 3)
        self.assertIsNone(errors.NoTurn(None).place)
        self.assertEqual(errors.NoKeep(("kind", "a", 0)).broken, ("kind", "a", 0))
        self.assertEqual(errors.Late(("deed", 2)).why, ("deed", 2))

    def test_raised_and_taken(self):
        for name in REFUSALS:
            with self.assertRaises(errors.PlanError):
                raise getattr(errors, name)("why")


if __name__ == "__main__":
    unittest.main()
