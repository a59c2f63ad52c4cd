import random
import unittest
from fractions import Fraction
from itertools import permutations

from borderwright.errors import BadPart, BadRing
from borderwright.points import each_once
from borderwright.rings import (
    all_area, area, both_bulging, box, chain, check_ring, clipped, heart, hull, is_bulging, same_ring, side, steps_of,
    thin, to_left, way_round, where, without_flat,
)
from helper import box_ring, number, pair, part_of, refused_unchanged, ring, spot, step, turned, unchanged

SQUARE = box_ring(0, 0, 4, 4)
THREE = ring((0, 0), (4, 0), (0, 4))
FLAT_SQUARE = ring((0, 0), (2, 0), (4, 0), (4, 4), (0, 4), (0, 1))
NOTCHED = ring((0, 0), (6, 0), (6, 4), (3, 1), (0, 4))
STAIRS = ring((0, 0), (3, 0), (3, 1), (2, 1), (2, 2), (1, 2), (1, 3), (0, 3))
HALVES = ring((0, 0), (Fraction(1, 2), 0), (Fraction(1, 2), Fraction(1, 3)), (0, Fraction(1, 3)))
BAD = ((1, 0), (0, 1))


class Checked(unittest.TestCase):
    def test_good_rings_are_told_as_they_stand(self):
        for row in (SQUARE, THREE, FLAT_SQUARE, NOTCHED, STAIRS, HALVES):
            self.assertEqual(check_ring(row), row)
            self.assertEqual(check_ring(row[::-1]), row[::-1])

    def test_parts_are_made_small(self):
        found = unchanged(self, check_ring, [((0, -3), (0, 2)), ((4, 2), (0, 1)), ((2, 1), (-6, -3))])
        self.assertEqual(found, ring((0, 0), (2, 0), (2, 2)))
        self.assertIs(found.__class__, tuple)

    def refused(self, *pairs):
        """See that a ring is refused, from any of its corners on and either way round."""
        row = list(ring(*pairs))
        for k in range(len(row) or 1):
            refused_unchanged(self, BadRing, check_ring, row[k:] + row[:k])
            refused_unchanged(self, BadRing, check_ring, (row[k:] + row[:k])[::-1])

    def test_too_few_corners(self):
        self.refused()
        self.refused((0, 0))
        self.refused((0, 0), (1, 0))

    def test_a_corner_twice(self):
        self.refused((0, 0), (1, 0), (0, 0))
        self.refused((0, 0), (2, 0), (2, 2), (0, 0), (-2, 2), (-2, 0))
        refused_unchanged(self, BadRing, check_ring, [spot(0, 0), spot(1, 0), spot(0, 1), ((0, 5), (2, 2))])

    def test_steps_that_cross(self):
        self.refused((0, 0), (2, 2), (2, 0), (0, 2))
        self.refused((0, 0), (5, 0), (1, 3), (2, -2), (4, 3))

    def test_steps_that_touch(self):
        self.refused((0, 0), (4, 0), (4, 4), (2, 0), (0, 4))
        self.refused((0, 0), (4, 0), (4, 4), (3, 4), (3, 0), (1, 0), (1, 4), (0, 4))

    def test_steps_that_go_back_along_themselves(self):
        self.refused((0, 0), (4, 0), (2, 0), (2, 4))
        self.refused((0, 0), (4, 0), (4, 4), (4, 1), (3, 1), (3, 3))

    def test_three_in_a_line(self):
        self.refused((0, 0), (1, 1), (2, 2))
        self.refused((0, 0), (2, 2), (1, 1))

    def test_four_in_a_line(self):
        for row in permutations([(0, 0), (1, 1), (2, 2), (3, 3)]):
            self.refused(*row)

    def test_nought_as_a_low_is_refused_before_all(self):
        with self.assertRaises(BadPart):
            check_ring([BAD])
        with self.assertRaises(BadPart):
            check_ring([spot(0, 0), spot(1, 0), spot(1, 1), BAD])

    def test_many_corners(self):
        row = [spot(k, k * k) for k in range(60)]
        self.assertEqual(check_ring(row), tuple(row))
        with self.assertRaises(BadRing):
            check_ring(row + [spot(20, 500), spot(20, 300)])


class Sizes(unittest.TestCase):
    def test_steps_of(self):
        a, b, c = THREE
        self.assertEqual(steps_of(THREE), ((a, b), (b, c), (c, a)))
        self.assertEqual(steps_of(list(THREE)), ((a, b), (b, c), (c, a)))

    def test_area_to_the_left(self):
        for row, size in ((SQUARE, 16), (THREE, 8), (FLAT_SQUARE, 16), (NOTCHED, 15), (STAIRS, 6),
                          (HALVES, Fraction(1, 6))):
            self.assertEqual(area(row), part_of(size))
            self.assertEqual(area(list(row)), part_of(size))

    def test_area_to_the_right(self):
        for row, size in ((SQUARE, 16), (THREE, 8), (FLAT_SQUARE, 16), (NOTCHED, 15), (HALVES, Fraction(1, 6))):
            self.assertEqual(area(row[::-1]), part_of(-size))

    def test_area_of_halves(self):
        self.assertEqual(area(ring((0, 0), (1, 0), (0, 1))), (1, 2))
        self.assertEqual(area(ring((0, 0), (1, 1), (2, 2))), (0, 1))

    def test_all_area(self):
        self.assertEqual(all_area([SQUARE, THREE[::-1]]), (24, 1))
        self.assertEqual(all_area(()), (0, 1))

    def test_way_round(self):
        self.assertEqual(way_round(NOTCHED), 1)
        self.assertEqual(way_round(NOTCHED[::-1]), -1)
        self.assertEqual(way_round(ring((0, 0), (1, 1), (2, 2))), 0)

    def test_thin(self):
        self.assertEqual(thin(SQUARE), (1, 1))
        self.assertEqual(thin(SQUARE[::-1]), (1, 1))
        self.assertEqual(thin(THREE), (1, 2))
        self.assertEqual(thin(box_ring(3, 3, 4, 1)), (1, 4))
        self.assertEqual(thin(box_ring(3, 3, 1, 4)), (1, 4))

    def test_thin_refuses(self):
        with self.assertRaises(BadRing):
            thin([])
        with self.assertRaises(BadPart):
            thin([spot(1, 1), spot(1, 1), spot(1, 1)])

    def test_heart(self):
        self.assertEqual(heart(SQUARE), spot(2, 2))
        self.assertEqual(heart(THREE), spot(Fraction(4, 3), Fraction(4, 3)))
        self.assertEqual(heart(THREE[::-1]), spot(Fraction(4, 3), Fraction(4, 3)))
        self.assertEqual(heart(FLAT_SQUARE), spot(2, 2))
        self.assertEqual(heart(HALVES), spot(Fraction(1, 4), Fraction(1, 6)))
        self.assertEqual(heart(box_ring(-3, 5, 2, 8)), spot(-2, 9))

    def test_heart_of_two_boxes(self):
        row = ring((0, 0), (4, 0), (4, 2), (2, 2), (2, 4), (0, 4))
        x = Fraction(8 * 2 + 4 * 1, 12)
        y = Fraction(8 * 1 + 4 * 3, 12)
        self.assertEqual(heart(row), spot(x, y))

    def test_heart_refuses_a_flat_ring(self):
        refused_unchanged(self, BadRing, heart, list(ring((0, 0), (1, 1), (2, 2))))

    def test_box(self):
        self.assertEqual(box(NOTCHED), tuple(part_of(k) for k in (0, 0, 6, 4)))
        self.assertEqual(box([spot(3, -2)]), tuple(part_of(k) for k in (3, -2, 3, -2)))
        self.assertEqual(box([spot(3, -2), spot(Fraction(1, 2), 5), spot(1, 1)]),
                         tuple(part_of(k) for k in (Fraction(1, 2), -2, 3, 5)))

    def test_box_refuses_none(self):
        for none in ([], ()):
            with self.assertRaises(BadRing):
                box(none)

    def test_nought_as_a_low_is_refused(self):
        row = list(THREE) + [BAD]
        works = [area, to_left, without_flat, is_bulging, heart, hull, thin, way_round, chain,
                 lambda one: where(one, spot(9, 9)), lambda one: clipped(one, *step((0, 0), (1, 1))),
                 lambda one: all_area([one]), lambda one: both_bulging(one, SQUARE),
                 lambda one: both_bulging(SQUARE, one), lambda one: same_ring(one, SQUARE),
                 lambda one: same_ring(SQUARE, one)]
        for place, work in enumerate(works):
            with self.subTest(place), self.assertRaises(BadPart):
                work(row)
        with self.assertRaises(BadPart):
            where(THREE, BAD)
        with self.assertRaises(BadPart):
            clipped(THREE, BAD, spot(1, 1))


class Rounds(unittest.TestCase):
    def test_to_left(self):
        a, b, c, d = SQUARE
        for row in ((a, b, c, d), (c, d, a, b), (d, c, b, a), (b, a, d, c)):
            self.assertEqual(to_left(row), SQUARE)
            self.assertEqual(unchanged(self, to_left, list(row)), SQUARE)

    def test_to_left_by_x_then_by_y(self):
        row = ring((0, 5), (1, 0), (0, 3))
        self.assertEqual(to_left(row), ring((0, 3), (1, 0), (0, 5)))

    def test_to_left_of_a_flat_one(self):
        self.assertEqual(to_left(ring((1, 1), (2, 2), (0, 0))), ring((0, 0), (1, 1), (2, 2)))

    def test_without_flat(self):
        self.assertEqual(without_flat(FLAT_SQUARE), SQUARE)
        self.assertEqual(without_flat(FLAT_SQUARE[::-1]), SQUARE[::-1])
        self.assertEqual(without_flat(list(SQUARE)), SQUARE)
        self.assertEqual(without_flat(ring((1, 0), (2, 0), (3, 0), (3, 3), (0, 3), (0, 0))),
                         ring((3, 0), (3, 3), (0, 3), (0, 0)))

    def test_without_flat_refuses(self):
        for row in (ring((0, 0), (1, 1), (2, 2)), ring((0, 0), (1, 0)), ()):
            with self.assertRaises(BadRing):
                without_flat(row)

    def test_is_bulging(self):
        for row, found in ((SQUARE, True), (THREE, True), (FLAT_SQUARE, True), (NOTCHED, False), (STAIRS, False)):
            self.assertIs(is_bulging(row), found)
            self.assertIs(is_bulging(row[::-1]), found)
        self.assertIs(is_bulging(ring((0, 0), (1, 1), (2, 2))), True)

    def test_same_ring(self):
        for row in (SQUARE, NOTCHED, FLAT_SQUARE):
            for k in range(len(row)):
                self.assertIs(same_ring(row, row[k:] + row[:k]), True)
                self.assertIs(same_ring(list((row[k:] + row[:k])[::-1]), row), True)

    def test_same_ring_tells_unlike_ones(self):
        self.assertIs(same_ring(SQUARE, FLAT_SQUARE), False)
        self.assertIs(same_ring(SQUARE, THREE), False)
        self.assertIs(same_ring(SQUARE, box_ring(0, 0, 4, 5)), False)
        first, second, third, fourth, fifth = NOTCHED
        self.assertIs(same_ring(NOTCHED, (first, second, fourth, third, fifth)), False)

    def test_same_ring_of_flat_ones(self):
        row = ring((0, 0), (1, 1), (2, 2))
        self.assertIs(same_ring(row, row[::-1]), True)


class Where(unittest.TestCase):
    def told(self, row, x, y, found):
        """See where a point lies for a ring, from any corner on and either way round."""
        for k in range(len(row)):
            self.assertEqual(where(row[k:] + row[:k], spot(x, y)), found)
            self.assertEqual(where((row[k:] + row[:k])[::-1], spot(x, y)), found)

    def test_within_and_outside(self):
        self.told(SQUARE, 2, 2, "in")
        self.told(SQUARE, 5, 2, "out")
        self.told(SQUARE, -1, 2, "out")
        self.told(SQUARE, 2, 5, "out")
        self.told(SQUARE, 2, -1, "out")
        self.told(THREE, 1, 1, "in")
        self.told(THREE, 3, 3, "out")
        self.told(HALVES, Fraction(1, 4), Fraction(1, 4), "in")
        self.told(HALVES, Fraction(1, 4), Fraction(1, 2), "out")

    def test_corners_and_edges(self):
        for row in (SQUARE, THREE, NOTCHED, STAIRS, FLAT_SQUARE):
            for x, y in (pair(one) for one in row):
                self.told(row, x, y, "on")
        self.told(SQUARE, 2, 0, "on")
        self.told(SQUARE, 4, 1, "on")
        self.told(SQUARE, 0, Fraction(1, 3), "on")
        self.told(THREE, 2, 2, "on")
        self.told(NOTCHED, 2, 2, "on")

    def test_level_with_corners(self):
        diamond = ring((0, -2), (2, 0), (0, 2), (-2, 0))
        self.told(diamond, 0, 0, "in")
        self.told(diamond, -3, 0, "out")
        self.told(diamond, 3, 0, "out")
        self.told(diamond, -1, 2, "out")
        self.told(diamond, -1, -2, "out")
        self.told(NOTCHED, 1, 1, "in")
        self.told(NOTCHED, -1, 1, "out")
        self.told(NOTCHED, 3, 4, "out")
        self.told(NOTCHED, -1, 4, "out")
        self.told(NOTCHED, 3, 2, "out")

    def test_level_with_edges(self):
        self.told(SQUARE, -1, 0, "out")
        self.told(SQUARE, -1, 4, "out")
        self.told(SQUARE, 5, 4, "out")
        self.told(STAIRS, Fraction(1, 2), 1, "in")
        self.told(STAIRS, Fraction(1, 2), 2, "in")
        self.told(STAIRS, -1, 1, "out")
        self.told(STAIRS, -1, 3, "out")
        self.told(STAIRS, Fraction(5, 2), 2, "out")

    def test_by_threes(self):
        rand = random.Random(5)
        for _ in range(150):
            a, b, c, one = (spot(rand.randint(0, 5), rand.randint(0, 5)) for _ in range(4))
            if side(a, b, c) == 0:
                continue
            sides = {side(a, b, one) * side(a, b, c), side(b, c, one) * side(b, c, a), side(c, a, one) * side(c, a, b)}
            found = "out" if -1 in sides else "on" if 0 in sides else "in"
            self.assertEqual(where((a, b, c), one), found)


class Hulls(unittest.TestCase):
    def test_hull(self):
        inner = [spot(1, 1), spot(2, 3), spot(3, 1)]
        self.assertEqual(hull(list(SQUARE) + inner), SQUARE)
        self.assertEqual(hull(inner[::-1] + list(SQUARE[::-1])), SQUARE)
        self.assertEqual(hull(NOTCHED), ring((0, 0), (6, 0), (6, 4), (0, 4)))
        self.assertEqual(unchanged(self, hull, list(FLAT_SQUARE)), SQUARE)

    def test_hull_of_alike_points(self):
        self.assertEqual(hull(THREE + THREE), THREE)

    def test_hull_refuses_a_line(self):
        for row in ([], [spot(1, 1)], [spot(1, 1)] * 3, [spot(0, 0), spot(1, 1)], [spot(k, 2 * k) for k in range(5)],
                    [spot(2, k) for k in range(5)], [spot(k, 2) for k in range(5)]):
            refused_unchanged(self, BadRing, hull, row)

    def test_hull_goes_about_all_points(self):
        rand = random.Random(6)
        for many in range(3, 25):
            spots = [spot(rand.randint(0, 6), rand.randint(0, 6)) for _ in range(many)]
            try:
                found = hull(spots)
            except BadRing:
                self.assertEqual({side(spots[0], one, other) for one in spots for other in spots}, {0})
                continue
            self.assertEqual(found[0], each_once(spots)[0])
            self.assertTrue(all(side(one, other, here) >= 0 for one, other in steps_of(found) for here in spots))
            self.assertEqual(without_flat(found), found)
            self.assertTrue(all(one in spots for one in found))

    def test_chain(self):
        row = [spot(0, 0), spot(1, 1), spot(2, 0), spot(3, 0), spot(4, 0), spot(5, 3)]
        self.assertEqual(unchanged(self, chain, row), [spot(0, 0), spot(4, 0), spot(5, 3)])
        self.assertEqual(chain(row[::-1]), [spot(5, 3), spot(1, 1), spot(0, 0)])
        self.assertIs(chain(tuple(row)).__class__, list)

    def test_chain_of_few(self):
        self.assertEqual(chain([]), [])
        self.assertEqual(chain([spot(1, 1)]), [spot(1, 1)])
        self.assertEqual(chain([spot(1, 1), spot(2, 2)]), [spot(1, 1), spot(2, 2)])
        self.assertEqual(chain([spot(0, 0), spot(1, 1), spot(2, 2)]), [spot(0, 0), spot(2, 2)])


class Clipped(unittest.TestCase):
    def test_all_left(self):
        self.assertEqual(clipped(SQUARE, *step((5, 0), (5, 1))), SQUARE)
        self.assertEqual(clipped(list(SQUARE[::-1]), *step((5, 0), (5, 1))), SQUARE[::-1])
        self.assertEqual(clipped(SQUARE, *step((4, 0), (4, 1))), SQUARE)

    def test_all_right(self):
        self.assertIsNone(clipped(SQUARE, *step((5, 1), (5, 0))))
        self.assertIsNone(clipped(SQUARE[::-1], *step((5, 1), (5, 0))))

    def test_edges_alone(self):
        self.assertIsNone(clipped(SQUARE, *step((4, 1), (4, 0))))
        self.assertIsNone(clipped(FLAT_SQUARE, *step((1, 0), (0, 0))))
        self.assertIsNone(clipped(FLAT_SQUARE[::-1], *step((1, 0), (0, 0))))

    def test_a_corner_alone(self):
        self.assertIsNone(clipped(SQUARE, *step((5, 3), (3, 5))[::-1]))

    def test_cut_through(self):
        self.assertEqual(turned(clipped(SQUARE, *step((1, 0), (1, 9)))), box_ring(0, 0, 1, 4))
        self.assertEqual(turned(clipped(SQUARE, *step((1, 9), (1, 0)))), box_ring(1, 0, 3, 4))
        found = clipped(SQUARE[::-1], *step((1, 9), (1, 0)))
        self.assertEqual(turned(found), turned(box_ring(1, 0, 3, 4)[::-1]))

    def test_cut_through_corners(self):
        self.assertEqual(turned(clipped(SQUARE, *step((0, 0), (1, 1)))), ring((0, 0), (4, 4), (0, 4)))
        self.assertEqual(turned(clipped(SQUARE, *step((1, 1), (0, 0)))), ring((0, 0), (4, 0), (4, 4)))

    def test_cut_at_parts(self):
        found = clipped(THREE, *step((0, Fraction(1, 3)), (1, 1)))
        self.assertEqual(turned(found), ring((0, Fraction(1, 3)), (Fraction(11, 5), Fraction(9, 5)), (0, 4)))

    def test_both_sides_make_the_whole(self):
        rand = random.Random(7)
        for _ in range(80):
            start, end = spot(rand.randint(-1, 5), rand.randint(-1, 5)), spot(rand.randint(-1, 5), rand.randint(6, 7))
            for row in (SQUARE, THREE, FLAT_SQUARE, THREE[::-1]):
                rows = [clipped(row, start, end), clipped(row, end, start)]
                self.assertEqual(all_area([one for one in rows if one is not None]), all_area([row]))
                for one in rows:
                    self.assertTrue(one is None or check_ring(one) == one)

    def test_another_ring_is_refused(self):
        for row in (NOTCHED, STAIRS[::-1]):
            refused_unchanged(self, BadRing, clipped, list(row), *step((1, 0), (1, 1)))

    def test_both_bulging(self):
        self.assertEqual(both_bulging(SQUARE, box_ring(2, 1, 9, 2)), box_ring(2, 1, 2, 2))
        self.assertEqual(both_bulging(SQUARE[::-1], list(box_ring(2, 1, 9, 2))), box_ring(2, 1, 2, 2))
        self.assertEqual(both_bulging(list(SQUARE), box_ring(2, 1, 9, 2)[::-1]), box_ring(2, 1, 2, 2))
        self.assertEqual(both_bulging(SQUARE, THREE), THREE)
        self.assertEqual(both_bulging(THREE, SQUARE), THREE)
        self.assertEqual(both_bulging(FLAT_SQUARE, FLAT_SQUARE[::-1]), SQUARE)

    def test_both_bulging_leaves_no_flat_corners(self):
        self.assertEqual(both_bulging(FLAT_SQUARE, box_ring(0, 0, 4, 2)), box_ring(0, 0, 4, 2))

    def test_both_bulging_of_nothing_but_edges(self):
        self.assertIsNone(both_bulging(SQUARE, box_ring(4, 0, 4, 4)))
        self.assertIsNone(both_bulging(SQUARE, box_ring(4, 4, 4, 4)))
        self.assertIsNone(both_bulging(SQUARE, box_ring(9, 9, 1, 1)))

    def test_both_bulging_goes_both_ways(self):
        rand = random.Random(8)
        for _ in range(60):
            rows = [hull_of_some(rand), hull_of_some(rand)]
            found = both_bulging(*rows)
            self.assertEqual(found, both_bulging(*rows[::-1]))
            if found is not None:
                self.assertEqual(found, to_left(found))
                self.assertEqual(found, without_flat(found))
                self.assertTrue(all(where(row, one) != "out" for row in rows for one in found))
                self.assertLessEqual(number(area(found)), min(number(area(row)) for row in rows))

    def test_both_bulging_refuses(self):
        refused_unchanged(self, BadRing, both_bulging, list(NOTCHED), SQUARE)
        refused_unchanged(self, BadRing, both_bulging, SQUARE, list(NOTCHED))


def hull_of_some(rand):
    """Return a bulging ring about some points."""
    while True:
        try:
            return hull([spot(rand.randint(0, 9), rand.randint(0, 9)) for _ in range(5)])
        except BadRing:
            continue


if __name__ == "__main__":
    unittest.main()
