import unittest

from borderwright import errors

UNDER = ["BadPart", "BadPoint", "BadRing", "BadMap", "BadPaper", "BadSize", "BadText", "BadStore", "NoSuch"]


class Errors(unittest.TestCase):
    def test_all_stand_right_under_map_fault(self):
        self.assertEqual(errors.MapFault.__bases__, (ValueError,))
        for name in UNDER:
            with self.subTest(name):
                self.assertEqual(getattr(errors, name).__bases__, (errors.MapFault,))

    def test_are_defined_where_they_are_listed(self):
        for name in ["MapFault"] + UNDER:
            self.assertEqual(getattr(errors, name).__module__, "borderwright.errors")

    def test_no_two_are_one(self):
        self.assertEqual(len({getattr(errors, name) for name in UNDER}), len(UNDER))

    def test_are_caught_as_value_errors_and_as_map_faults(self):
        for name in UNDER:
            for kind in (ValueError, errors.MapFault):
                with self.subTest(name), self.assertRaises(kind):
                    raise getattr(errors, name)("why")

    def test_one_is_not_caught_as_another(self):
        with self.assertRaises(errors.BadRing):
            try:
                raise errors.BadRing("why")
            except errors.BadPoint:
                pass


if __name__ == "__main__":
    unittest.main()
