import unittest
from fractions import Fraction
from itertools import product

from borderwright.errors import BadPart
from borderwright.parts import (
    greater, is_less, lesser, minus, over, part, plus, shared, sign_of, size_of, times, told, total,
)
from helper import number, part_of, unchanged

SOME = [part_of(Fraction(top, low)) for top in (-7, -3, -1, 0, 1, 2, 5) for low in (1, 2, 3, 12)]
MANY = 10 ** 60 + 7
NO_PART = (1, 0)


class Made(unittest.TestCase):
    def test_shared(self):
        self.assertEqual(shared(12, 18), 6)
        self.assertEqual(shared(7, 5), 1)
        self.assertEqual(shared(0, 5), 5)
        self.assertEqual(shared(5, 0), 5)
        self.assertEqual(shared(-12, 18), 6)
        self.assertEqual(shared(12, -18), 6)
        self.assertEqual(shared(MANY * 6, MANY * 15), MANY * 3)

    def test_a_whole_number(self):
        self.assertEqual(part(5), (5, 1))
        self.assertEqual(part(0), (0, 1))
        self.assertEqual(part(-5), (-5, 1))
        self.assertEqual(part(5, 1), (5, 1))

    def test_made_small(self):
        self.assertEqual(part(6, 4), (3, 2))
        self.assertEqual(part(-6, 4), (-3, 2))
        self.assertEqual(part(8, 4), (2, 1))
        self.assertEqual(part(3, 7), (3, 7))

    def test_the_low_comes_above_nought(self):
        self.assertEqual(part(6, -4), (-3, 2))
        self.assertEqual(part(-6, -4), (3, 2))
        self.assertEqual(part(5, -1), (-5, 1))
        self.assertEqual(part(-5, -1), (5, 1))

    def test_a_top_of_nought(self):
        self.assertEqual(part(0, 7), (0, 1))
        self.assertEqual(part(0, -7), (0, 1))

    def test_many_figures(self):
        self.assertEqual(part(MANY * 6, MANY * 9), (2, 3))
        self.assertEqual(part(MANY, -(MANY + 1)), (-MANY, MANY + 1))

    def test_by_name(self):
        self.assertEqual(part(top=4, low=6), (2, 3))

    def test_nought_as_the_low_is_refused(self):
        for top in (-1, 0, 1, MANY):
            with self.assertRaises(BadPart):
                part(top, 0)

    def test_tells_tuples(self):
        for one in (part(1), part(4, 6), size_of((-1, 2)), plus((1, 2), (1, 3)), total([]), over((1, 1), (2, 1))):
            self.assertIs(one.__class__, tuple)


class Reckoned(unittest.TestCase):
    def test_all_by_fractions(self):
        for one, other in product(SOME, SOME):
            first, second = number(one), number(other)
            self.assertEqual(plus(one, other), part_of(first + second))
            self.assertEqual(minus(one, other), part_of(first - second))
            self.assertEqual(times(one, other), part_of(first * second))
            self.assertEqual(is_less(one, other), first < second)
            self.assertEqual(lesser(one, other), part_of(min(first, second)))
            self.assertEqual(greater(one, other), part_of(max(first, second)))
            if second != 0:
                self.assertEqual(over(one, other), part_of(first / second))

    def test_ordinary_ones(self):
        self.assertEqual(plus((1, 2), (1, 3)), (5, 6))
        self.assertEqual(plus((1, 2), (1, 2)), (1, 1))
        self.assertEqual(minus((1, 2), (1, 3)), (1, 6))
        self.assertEqual(minus((1, 2), (1, 2)), (0, 1))
        self.assertEqual(times((2, 3), (3, 4)), (1, 2))
        self.assertEqual(over((1, 2), (-3, 4)), (-2, 3))

    def test_many_figures(self):
        self.assertEqual(plus((1, MANY), (1, MANY)), part_of(Fraction(2, MANY)))
        self.assertEqual(times((MANY, 1), (1, MANY)), (1, 1))
        self.assertTrue(is_less((MANY, MANY + 1), (MANY + 1, MANY + 2)))
        self.assertFalse(is_less((MANY + 1, MANY + 2), (MANY, MANY + 1)))

    def test_less_of_alike_ones(self):
        self.assertIs(is_less((1, 2), (1, 2)), False)
        self.assertIs(is_less((1, 3), (1, 2)), True)
        self.assertIs(is_less((-1, 2), (-1, 3)), True)

    def test_sign(self):
        self.assertEqual([sign_of(one) for one in ((3, 4), (0, 1), (-3, 4))], [1, 0, -1])

    def test_size(self):
        self.assertEqual([size_of(one) for one in ((3, 4), (0, 1), (-3, 4))], [(3, 4), (0, 1), (3, 4)])

    def test_total(self):
        self.assertEqual(total([]), (0, 1))
        self.assertEqual(total(()), (0, 1))
        self.assertEqual(total([(2, 3)]), (2, 3))
        self.assertEqual(total(((1, 2), (1, 3), (1, 6))), (1, 1))
        self.assertEqual(total([(1, 2), (-1, 2)]), (0, 1))

    def test_lesser_and_greater_of_alike_ones(self):
        self.assertEqual(lesser((1, 2), (1, 2)), (1, 2))
        self.assertEqual(greater((1, 2), (1, 2)), (1, 2))
        self.assertEqual(lesser((-1, 2), (1, 3)), (-1, 2))
        self.assertEqual(greater((-1, 2), (1, 3)), (1, 3))

    def test_nought_as_the_low_is_refused_by_what_asks(self):
        for work in (plus, minus, times, over):
            with self.subTest(work.__name__):
                with self.assertRaises(BadPart):
                    work(NO_PART, (1, 2))
                with self.assertRaises(BadPart):
                    work(NO_PART, NO_PART)
        for work in (plus, minus, times):
            with self.subTest(work.__name__), self.assertRaises(BadPart):
                work((1, 2), NO_PART)
        with self.assertRaises(BadPart):
            total([(1, 2), NO_PART])

    def test_by_nought_is_refused(self):
        for one in ((1, 2), (0, 1), (-3, 1)):
            with self.assertRaises(BadPart):
                over(one, (0, 1))

    def test_handed_in_is_unchanged(self):
        self.assertEqual(unchanged(self, total, [(1, 2), (1, 3)]), (5, 6))


class Told(unittest.TestCase):
    def test_whole_ones(self):
        self.assertEqual([told(one) for one in ((0, 1), (7, 1), (-7, 1), (-1, 1))], ["0", "7", "-7", "-1"])

    def test_with_a_stroke(self):
        self.assertEqual([told(one) for one in ((3, 4), (-3, 4), (1, 10), (-1, 10))],
                         ["3/4", "-3/4", "1/10", "-1/10"])

    def test_many_figures(self):
        self.assertEqual(told((MANY, 1)), str(MANY))
        self.assertEqual(told((-MANY, MANY + 1)), f"-{MANY}/{MANY + 1}")
        self.assertEqual(told((10 ** 64, 1)), "1" + "0" * 64)
        self.assertEqual(told((10 ** 64 - 1, 1)), "9" * 64)
        self.assertEqual(told((-(10 ** 130) - 5, 1)), "-1" + "0" * 129 + "5")

    def test_more_figures_than_python_writes_at_once(self):
        self.assertEqual(told((3 * 10 ** 6000, 7)), "3" + "0" * 6000 + "/7")


if __name__ == "__main__":
    unittest.main()
