import random
import unittest
from fractions import Fraction
from itertools import product

from borderwright.errors import BadPart, BadPoint
from borderwright.points import (
    apart, between, check_point, cross, each_once, half, in_order, is_ahead, may_meet, meets, middle, near_pairs,
    on_way, point, shifted, side, square, stride, turns_ahead,
)
from helper import number, pair, part_of, spot, step, unchanged

BAD = ((1, 0), (0, 1))
BAD_UP = ((0, 1), (1, 0))
ROUND = [(1, 0), (3, 1), (1, 1), (1, 3), (0, 1), (-1, 3), (-1, 1), (-3, 1), (-1, 0), (-3, -1), (-1, -1), (-1, -3),
         (0, -1), (1, -3), (1, -1), (3, -1)]


def some_spots(many, seed):
    """Return points with small parts, alike ones among them."""
    rand = random.Random(seed)
    return [spot(Fraction(rand.randint(-4, 4), rand.randint(1, 3)), Fraction(rand.randint(-4, 4), rand.randint(1, 3)))
            for _ in range(many)]


class Single(unittest.TestCase):
    def test_point(self):
        self.assertEqual(point(3, -4), ((3, 1), (-4, 1)))
        self.assertEqual(point(x=1, y=2), ((1, 1), (2, 1)))

    def test_check_point_makes_small(self):
        self.assertEqual(check_point(((4, 6), (3, -6))), ((2, 3), (-1, 2)))
        self.assertEqual(check_point(((0, -5), (5, -1))), ((0, 1), (-5, 1)))

    def test_check_point_refuses_nought_as_the_low(self):
        for bad in (BAD, BAD_UP):
            with self.assertRaises(BadPart):
                check_point(bad)

    def test_apart(self):
        self.assertEqual(apart(spot(1, 2), spot(Fraction(3, 2), -1)), ((1, 2), (-3, 1)))
        self.assertEqual(apart(spot(1, 2), spot(1, 2)), ((0, 1), (0, 1)))

    def test_middle(self):
        self.assertEqual(middle(spot(0, 1), spot(3, 2)), spot(Fraction(3, 2), Fraction(3, 2)))
        self.assertEqual(middle(spot(1, 1), spot(1, 1)), spot(1, 1))

    def test_on_way(self):
        self.assertEqual(on_way(spot(1, 1), spot(4, -2), (1, 3)), spot(2, 0))
        self.assertEqual(on_way(spot(1, 1), spot(4, -2), (0, 1)), spot(1, 1))
        self.assertEqual(on_way(spot(1, 1), spot(4, -2), (1, 1)), spot(4, -2))
        self.assertEqual(on_way(spot(1, 1), spot(4, -2), (-1, 3)), spot(0, 2))
        self.assertEqual(on_way(spot(0, 0), spot(1, 3), (3, 2)), spot(Fraction(3, 2), Fraction(9, 2)))

    def test_square(self):
        self.assertEqual(square(spot(1, 1), spot(4, 5)), (25, 1))
        self.assertEqual(square(spot(4, 5), spot(1, 1)), (25, 1))
        self.assertEqual(square(spot(0, 0), spot(Fraction(1, 2), Fraction(1, 2))), (1, 2))
        self.assertEqual(square(spot(2, 3), spot(2, 3)), (0, 1))

    def test_stride(self):
        self.assertEqual(stride(spot(1, 1), spot(4, 5)), (7, 1))
        self.assertEqual(stride(spot(4, 1), spot(1, 5)), (7, 1))
        self.assertEqual(stride(spot(1, 5), spot(4, 1)), (7, 1))
        self.assertEqual(stride(spot(0, 0), spot(Fraction(-1, 2), Fraction(-1, 3))), (5, 6))

    def test_shifted(self):
        self.assertEqual(shifted(spot(1, 2), (1, 2), (-3, 1)), spot(Fraction(3, 2), -1))

    def test_nought_as_the_low_is_refused(self):
        good = spot(1, 2)
        works = [apart, middle, square, stride, lambda one, other: on_way(one, other, (1, 2)),
                 lambda one, other: cross(one, other), lambda one, other: side(one, other, spot(3, 7)),
                 lambda one, other: side(spot(3, 7), one, other), lambda one, other: between(one, other, spot(3, 7)),
                 lambda one, other: meets((one, other), step((3, 3), (4, 7))),
                 lambda one, other: meets(step((3, 3), (4, 7)), (one, other))]
        for place, work in enumerate(works):
            for bad in (BAD, BAD_UP):
                with self.subTest(place):
                    with self.assertRaises(BadPart):
                        work(bad, good)
                    with self.assertRaises(BadPart):
                        work(good, bad)
        for x, y in (((1, 0), (1, 1)), ((1, 1), (1, 0))):
            with self.assertRaises(BadPart):
                shifted(good, x, y)
        with self.assertRaises(BadPart):
            on_way(good, spot(3, 3), (1, 0))


class Sides(unittest.TestCase):
    def test_cross(self):
        self.assertEqual(cross(spot(1, 0), spot(0, 1)), (1, 1))
        self.assertEqual(cross(spot(0, 1), spot(1, 0)), (-1, 1))
        self.assertEqual(cross(spot(2, 4), spot(1, 2)), (0, 1))
        self.assertEqual(cross(spot(Fraction(1, 2), 3), spot(5, Fraction(1, 3))), part_of(Fraction(1, 6) - 15))

    def test_side(self):
        self.assertEqual(side(spot(0, 0), spot(2, 0), spot(5, 1)), 1)
        self.assertEqual(side(spot(0, 0), spot(2, 0), spot(5, -1)), -1)
        self.assertEqual(side(spot(0, 0), spot(2, 0), spot(5, 0)), 0)
        self.assertEqual(side(spot(0, 0), spot(2, 0), spot(-5, 0)), 0)
        self.assertEqual(side(spot(2, 0), spot(0, 0), spot(5, 1)), -1)

    def test_side_is_exact(self):
        much = 10 ** 40
        self.assertEqual(side(spot(0, 0), spot(much, much + 1), spot(much - 1, much)), 1)
        self.assertEqual(side(spot(0, 0), spot(much, much + 1), spot(much + 1, much + 2)), -1)
        self.assertEqual(side(spot(0, 0), spot(Fraction(1, 3), Fraction(1, 7)), spot(7, 3)), 0)

    def test_side_is_the_sign_of_a_turn(self):
        spots = some_spots(12, 1)
        for start, end, other in product(spots, spots, spots):
            (ax, ay), (bx, by), (cx, cy) = pair(start), pair(end), pair(other)
            turn = (bx - ax) * (cy - ay) - (by - ay) * (cx - ax)
            self.assertEqual(side(start, end, other), (turn > 0) - (turn < 0))

    def test_side_of_parts_that_are_not_small(self):
        self.assertEqual(side(((0, -3), (0, 5)), ((-4, -2), (0, 1)), ((5, 1), (-2, -7))), 1)
        self.assertEqual(side(((0, 1), (0, 1)), ((2, -1), (0, -1)), ((5, 1), (1, 1))), -1)

    def test_between(self):
        start, end = spot(0, 0), spot(4, 2)
        for one, found in ((spot(2, 1), True), (spot(0, 0), True), (spot(4, 2), True), (spot(6, 3), False),
                           (spot(-2, -1), False), (spot(2, 2), False), (spot(2, 0), False), (spot(4, 0), False)):
            self.assertIs(between(start, end, one), found)
            self.assertIs(between(end, start, one), found)

    def test_between_on_upright_and_level_steps(self):
        self.assertTrue(between(spot(1, 0), spot(1, 3), spot(1, 2)))
        self.assertFalse(between(spot(1, 0), spot(1, 3), spot(1, 4)))
        self.assertFalse(between(spot(1, 0), spot(1, 3), spot(1, Fraction(-1, 9))))
        self.assertTrue(between(spot(3, 1), spot(0, 1), spot(Fraction(1, 2), 1)))
        self.assertFalse(between(spot(3, 1), spot(0, 1), spot(4, 1)))


class Meets(unittest.TestCase):
    def every_way(self, first, second, found):
        """See what two steps have, both ways round each and either one first."""
        for one, other in ((first, second), (second, first)):
            for here, there in product((one, one[::-1]), (other, other[::-1])):
                self.assertEqual(meets(here, there), found)
                if found is not None:
                    self.assertTrue(may_meet(here, there))

    def test_nothing(self):
        self.every_way(step((0, 0), (2, 0)), step((0, 1), (2, 1)), None)
        self.every_way(step((0, 0), (2, 2)), step((1, 0), (3, 1)), None)
        self.every_way(step((0, 0), (1, 0)), step((2, 0), (3, 0)), None)
        self.every_way(step((0, 0), (0, 1)), step((0, 2), (0, 3)), None)
        self.every_way(step((0, 0), (4, 0)), step((5, -1), (5, 1)), None)
        self.every_way(step((0, 0), (4, 0)), step((2, 1), (2, 5)), None)

    def test_a_point_inside_both(self):
        self.every_way(step((0, 0), (2, 2)), step((0, 2), (2, 0)), ("point", spot(1, 1)))
        found = ("point", spot(Fraction(2, 3), Fraction(2, 3)))
        self.every_way(step((0, 0), (1, 1)), step((0, 1), (2, 0)), found)

    def test_a_point_at_an_end(self):
        self.every_way(step((0, 0), (4, 0)), step((1, 0), (2, 5)), ("point", spot(1, 0)))
        self.every_way(step((0, 0), (4, 0)), step((4, 0), (4, 5)), ("point", spot(4, 0)))
        self.every_way(step((0, 0), (4, 2)), step((2, 1), (2, -5)), ("point", spot(2, 1)))

    def test_ends_that_touch_on_one_line(self):
        self.every_way(step((0, 0), (1, 1)), step((1, 1), (3, 3)), ("point", spot(1, 1)))
        self.every_way(step((1, 0), (1, 1)), step((1, 1), (1, 3)), ("point", spot(1, 1)))

    def test_a_step(self):
        self.every_way(step((0, 0), (3, 3)), step((1, 1), (5, 5)), ("step", step((1, 1), (3, 3))))
        self.every_way(step((0, 0), (5, 0)), step((1, 0), (2, 0)), ("step", step((1, 0), (2, 0))))
        self.every_way(step((0, 5), (0, 0)), step((0, 4), (0, 9)), ("step", step((0, 4), (0, 5))))
        self.every_way(step((0, 3), (3, 0)), step((0, 3), (3, 0)), ("step", step((0, 3), (3, 0))))
        self.every_way(step((0, 3), (3, 0)), step((0, 3), (2, 1)), ("step", step((0, 3), (2, 1))))

    def test_a_step_to_nowhere_is_refused(self):
        good = step((0, 0), (1, 1))
        for bad in (step((0, 0), (0, 0)), step((5, 5), (5, 5))):
            with self.assertRaises(BadPoint):
                meets(bad, good)
            with self.assertRaises(BadPoint):
                meets(good, bad)
            with self.assertRaises(BadPoint):
                meets(bad, bad)

    def test_by_points_on_both(self):
        spots = some_spots(14, 2)
        rand = random.Random(3)
        for _ in range(600):
            a, b, c, d = (rand.choice(spots) for _ in range(4))
            if a == b or c == d:
                continue
            found = meets((a, b), (c, d))
            ends = [one for one in (a, b) if between(c, d, one)] + [one for one in (c, d) if between(a, b, one)]
            if found is None:
                self.assertEqual(ends, [])
                self.assertFalse(side(a, b, c) * side(a, b, d) < 0 and side(c, d, a) * side(c, d, b) < 0)
            elif found[0] == "point":
                self.assertTrue(between(a, b, found[1]) and between(c, d, found[1]))
                self.assertTrue(all(one == found[1] for one in ends))
            else:
                self.assertEqual([found[1][0], found[1][1]], each_once(ends))
                self.assertTrue(is_ahead(*found[1]))

    def test_may_meet(self):
        one = step((0, 0), (2, 2))
        self.assertIs(may_meet(one, step((2, 2), (3, 3))), True)
        self.assertIs(may_meet(one, step((2, 0), (1, 0))), True)
        self.assertIs(may_meet(one, step((3, 0), (3, 2))), False)
        self.assertIs(may_meet(one, step((0, 3), (2, 4))), False)
        self.assertIs(may_meet(one, step((-1, 0), (-2, 2))), False)
        self.assertIs(may_meet(one, step((0, -1), (2, -1))), False)
        self.assertIs(may_meet(step((2, 2), (0, 0)), step((1, 1), (1, 1))), True)
        self.assertIs(may_meet(step((0, 2), (2, 0)), step((5, 1), (-5, 1))), True)

    def test_near_pairs_are_all_that_may_meet(self):
        spots = some_spots(60, 4)
        rows = [(spots[k], spots[k + 1]) for k in range(0, 60, 2)]
        found = near_pairs(rows)
        wanted = [(k, n) for n in range(30) for k in range(n) if may_meet(rows[k], rows[n])]
        self.assertEqual(sorted(found), sorted(wanted))


class Order(unittest.TestCase):
    def test_is_ahead(self):
        self.assertIs(is_ahead(spot(1, 5), spot(2, 0)), True)
        self.assertIs(is_ahead(spot(2, 0), spot(1, 5)), False)
        self.assertIs(is_ahead(spot(1, 0), spot(1, 5)), True)
        self.assertIs(is_ahead(spot(1, 5), spot(1, 0)), False)
        self.assertIs(is_ahead(spot(1, 5), spot(1, 5)), False)
        self.assertIs(is_ahead(spot(Fraction(1, 3), 0), spot(Fraction(1, 2), 0)), True)

    def test_in_order_keeps_alike_ones(self):
        row = [spot(1, 1), spot(0, 5), spot(1, 0), spot(0, 5), spot(Fraction(1, 2), 7)]
        found = unchanged(self, in_order, row)
        self.assertEqual(found, [spot(0, 5), spot(0, 5), spot(Fraction(1, 2), 7), spot(1, 0), spot(1, 1)])
        self.assertIs(found.__class__, list)
        self.assertIsNot(found, row)

    def test_each_once_tells_alike_ones_once(self):
        row = (spot(1, 1), spot(0, 5), spot(1, 0), spot(0, 5), spot(1, 1), spot(1, 1))
        found = unchanged(self, each_once, row)
        self.assertEqual(found, [spot(0, 5), spot(1, 0), spot(1, 1)])
        self.assertIs(found.__class__, list)

    def test_few_or_none(self):
        self.assertEqual(in_order([]), [])
        self.assertEqual(in_order(()), [])
        self.assertEqual(each_once(()), [])
        self.assertEqual(in_order((spot(1, 2),)), [spot(1, 2)])
        self.assertEqual(each_once([spot(1, 2)]), [spot(1, 2)])
        one = [spot(1, 2)]
        self.assertIsNot(in_order(one), one)

    def test_as_numbers_are_sorted(self):
        for many in range(40):
            row = some_spots(many, many)
            self.assertEqual(in_order(row), sorted(row, key=pair))
            self.assertEqual(each_once(row), sorted(set(row), key=pair))

    def test_half(self):
        found = [half(spot(*one)) for one in ROUND]
        self.assertEqual(found, [0] * 8 + [1] * 8)

    def test_turns_ahead_all_round(self):
        for one, first in enumerate(ROUND):
            for other, second in enumerate(ROUND):
                self.assertIs(turns_ahead(spot(*first), spot(*second)), one < other)
                longer = spot(second[0] * Fraction(5, 3), second[1] * Fraction(5, 3))
                self.assertIs(turns_ahead(spot(*first), longer), one < other)

    def test_what_goes_nowhere_is_refused(self):
        with self.assertRaises(BadPoint):
            half(spot(0, 0))
        for good in ROUND:
            with self.assertRaises(BadPoint):
                turns_ahead(spot(0, 0), spot(*good))
            with self.assertRaises(BadPoint):
                turns_ahead(spot(*good), spot(0, 0))

    def test_tells_tuples_throughout(self):
        for one in (point(1, 2), check_point(((2, 4), (1, 1))), apart(spot(0, 0), spot(1, 1)),
                    middle(spot(0, 0), spot(1, 1)), on_way(spot(0, 0), spot(1, 1), (1, 2)),
                    shifted(spot(0, 0), (1, 1), (1, 1))):
            self.assertEqual([found.__class__ for found in (one, *one)], [tuple] * 3)
        found = meets(step((0, 0), (3, 3)), step((1, 1), (5, 5)))
        self.assertEqual([found.__class__, found[1].__class__], [tuple, tuple])
        self.assertEqual(number(square(spot(0, 0), spot(1, 1))), 2)


if __name__ == "__main__":
    unittest.main()
