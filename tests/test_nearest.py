import random
import unittest
from fractions import Fraction

from borderwright.errors import BadPart, BadRing, BadSize
from borderwright.maps import check_whole
from borderwright.nearest import furthest, nearest, nearest_part, shared_out, two_nearest
from borderwright.points import square
from borderwright.rings import area, hull, where
from helper import (
    box_ring, number, pair, refused_unchanged, ring, spot, tuples_all_through, turned, unchanged,
)

HALF = Fraction(1, 2)
BOX = box_ring(0, 0, 4, 4)
DENT = ring((0, 0), (4, 0), (4, 4), (2, 1), (0, 4))
BAD = ((1, 0), (0, 1))


def far(one, other):
    """Return the square of how far two points are apart, as a number."""
    return sum((here - there) ** 2 for here, there in zip(pair(one), pair(other)))


class Points(unittest.TestCase):
    def test_nearest(self):
        found = unchanged(self, nearest, list(ring((0, 0), (4, 0), (3, 3))), spot(3, 1))
        self.assertEqual(found, (1,))
        tuples_all_through(self, found)
        self.assertEqual(nearest([spot(9, 9)], spot(0, 0)), (0,))
        self.assertEqual(nearest(ring((2, 2), (1, 1)), spot(1, 1)), (1,))

    def test_nearest_with_ties_in_order(self):
        self.assertEqual(nearest(ring((1, 0), (5, 5), (0, 1), (-1, 0), (0, 2)), spot(0, 0)), (0, 2, 3))
        self.assertEqual(nearest(ring((1, 0), (0, 0), (0, 0)), spot(0, 0)), (1, 2))
        self.assertEqual(nearest([spot(Fraction(1, 3), 0), spot(0, Fraction(2, 6))], spot(0, 0)), (0, 1))

    def test_nearest_of_none_is_refused(self):
        for spots in ([], ()):
            refused_unchanged(self, BadSize, nearest, spots, spot(0, 0))
        refused_unchanged(self, BadPart, nearest, [BAD], spot(0, 0))

    def test_two_nearest_and_furthest(self):
        spots = list(ring((0, 0), (9, 0), (2, 2), (9, 1)))
        for work, found in ((two_nearest, (1, 3)), (furthest, (0, 3))):
            self.assertEqual(unchanged(self, work, spots), found)
            tuples_all_through(self, work(spots))
            self.assertEqual(work(spots[:2]), (0, 1))

    def test_ties_go_to_the_first(self):
        self.assertEqual(two_nearest(box_ring(0, 0, 1, 1)), (0, 1))
        self.assertEqual(furthest(box_ring(0, 0, 1, 1)), (0, 2))
        self.assertEqual(two_nearest(ring((9, 9), (0, 0), (5, 0), (5, 1), (0, 1))), (1, 4))
        self.assertEqual(furthest(ring((0, 0), (1, 1), (1, 0), (0, 1))), (0, 1))

    def test_alike_points(self):
        self.assertEqual(two_nearest(ring((0, 0), (1, 0), (5, 5), (1, 0))), (1, 3))
        self.assertEqual(furthest(ring((2, 2), (2, 2), (2, 2))), (0, 1))

    def test_below_two_are_refused(self):
        for spots in ([], (), [spot(0, 0)]):
            refused_unchanged(self, BadSize, two_nearest, spots)
            refused_unchanged(self, BadSize, furthest, spots)

    def test_pairs_against_all(self):
        rand = random.Random(23)
        for _ in range(40):
            spots = [spot(rand.randint(0, 4), Fraction(rand.randint(0, 9), 2)) for _ in range(rand.randint(2, 7))]
            rows = [(number(square(spots[one], spots[other])), one, other)
                    for one in range(len(spots)) for other in range(one + 1, len(spots))]
            self.assertEqual(two_nearest(spots), min(rows)[1:])
            self.assertEqual(furthest(spots), min((-row[0], *row[1:]) for row in rows)[1:])


class Part(unittest.TestCase):
    def test_two_points(self):
        spots = [spot(1, 2), spot(3, 2)]
        found = unchanged(self, nearest_part, list(BOX), spots, 0)
        self.assertEqual(turned(found), box_ring(0, 0, 2, 4))
        tuples_all_through(self, found)
        self.assertEqual(turned(nearest_part(BOX, spots, 1)), box_ring(2, 0, 2, 4))
        self.assertEqual(turned(nearest_part(BOX[::-1], tuple(spots), 1)), box_ring(2, 0, 2, 4))

    def test_slanted(self):
        spots = [spot(1, 1), spot(3, 3)]
        self.assertEqual(turned(nearest_part(BOX, spots, 0)), ring((0, 0), (4, 0), (0, 4)))
        self.assertEqual(turned(nearest_part(BOX, spots, 1)), ring((0, 4), (4, 0), (4, 4)))

    def test_one_point_alone(self):
        for one in (spot(1, 1), spot(99, 99)):
            self.assertEqual(turned(nearest_part(BOX, [one], 0)), BOX)
        flat = ring((0, 0), (2, 0), (4, 0), (4, 4), (0, 4))
        self.assertEqual(turned(nearest_part(flat[::-1], [spot(1, 1)], 0)), BOX)

    def test_a_point_that_has_nothing(self):
        spots = [spot(2, 2), spot(9, 2), spot(6, 2)]
        self.assertIsNone(unchanged(self, nearest_part, BOX, spots, 1))
        # Half way to the third one lies the ring's edge, which is nothing.
        self.assertIsNone(nearest_part(BOX, spots, 2))
        self.assertEqual(turned(nearest_part(BOX, spots, 0)), BOX)

    def test_a_point_outside_that_has_something(self):
        self.assertEqual(turned(nearest_part(BOX, [spot(2, 2), spot(5, 2)], 1)), box_ring(3 + HALF, 0, HALF, 4))

    def test_a_ring_that_does_not_bulge_is_refused(self):
        refused_unchanged(self, BadSize, nearest_part, DENT, [spot(1, 1)], 0)
        refused_unchanged(self, BadSize, nearest_part, DENT[::-1], [spot(1, 1), spot(2, 1)], 0)
        refused_unchanged(self, BadSize, shared_out, DENT, [spot(1, 1)], ["a"])

    def test_alike_points_are_refused(self):
        refused_unchanged(self, BadSize, nearest_part, BOX, [spot(1, 1), spot(2, 1), spot(1, 1)], 1)
        refused_unchanged(self, BadSize, shared_out, BOX, [spot(1, 1), spot(1, 1)], ["a", "b"])

    def test_a_place_that_is_not_there_is_refused(self):
        for spots, place in (([spot(1, 1)], 1), ([spot(1, 1)], -1), ([], 0), ([spot(1, 1), spot(2, 2)], 2)):
            refused_unchanged(self, BadSize, nearest_part, BOX, spots, place)

    def test_bad_rings_are_refused(self):
        for row in (ring((0, 0), (4, 0)), ring((0, 0), (2, 2), (2, 0), (0, 2)), ring((0, 0), (1, 0), (2, 0))):
            refused_unchanged(self, BadRing, nearest_part, row, [spot(1, 1)], 0)
            refused_unchanged(self, BadRing, shared_out, row, [spot(1, 1)], ["a"])
        refused_unchanged(self, BadPart, nearest_part, [spot(0, 0), spot(1, 0), BAD], [spot(1, 1)], 0)


class Shared(unittest.TestCase):
    def test_shared_out(self):
        spots, names = [spot(1, 2), spot(3, 2)], ["b", "a"]
        found = unchanged(self, shared_out, list(BOX), spots, names)
        self.assertEqual(found.names(), ("a", "b"))
        self.assertEqual(turned(found.rings("b")[0]), box_ring(0, 0, 2, 4))
        self.assertEqual(turned(found.rings("a")[0]), box_ring(2, 0, 2, 4))
        self.assertIs(check_whole(found, BOX), True)

    def test_names_that_have_nothing(self):
        found = shared_out(BOX, ring((2, 2), (9, 2)), ("a", "b"))
        self.assertEqual((found.names(), found.rings("b"), found.whole()), (("a", "b"), (), (16, 1)))

    def test_no_points(self):
        self.assertEqual(shared_out(BOX, [], []).names(), ())

    def test_another_count_of_names_is_refused(self):
        for spots, names in (([spot(1, 1)], []), ([spot(1, 1)], ["a", "b"]), ([], ["a"]),
                             ([spot(1, 1), spot(2, 2)], ["a"])):
            refused_unchanged(self, BadSize, shared_out, BOX, spots, names)

    def test_alike_names_are_refused(self):
        refused_unchanged(self, BadSize, shared_out, BOX, [spot(1, 1), spot(2, 2)], ["a", "a"])

    def test_fills_the_ring_wholly_and_each_point_is_nearest_to_its_own(self):
        rand = random.Random(24)
        for _ in range(25):
            try:
                outline = hull([spot(rand.randint(0, 8), rand.randint(0, 8)) for _ in range(6)])
            except BadRing:
                continue
            spots = list({spot(Fraction(rand.randint(-2, 18), 2), rand.randint(-1, 9)) for _ in range(6)})
            names = [f"n{k}" for k in range(len(spots))]
            made = shared_out(outline, spots, names)
            self.assertIs(check_whole(made, outline), True)
            self.assertEqual(made.whole(), area(outline))
            for name, row in made.shown():
                for here in (one for mine in row for one in mine):
                    self.assertIn(names.index(name), nearest(spots, here))
                    self.assertNotEqual(where(outline, here), "out")
            for _ in range(10):
                here = spot(Fraction(rand.randint(0, 56), 7), Fraction(rand.randint(0, 56), 7))
                least = min(far(one, here) for one in spots)
                mine = tuple(place for place, one in enumerate(spots) if far(one, here) == least)
                self.assertEqual(nearest(spots, here), mine)
                if where(outline, here) == "in":
                    self.assertIn(made.owner_of(here), [names[mine[0]]] if len(mine) == 1 else [None])


if __name__ == "__main__":
    unittest.main()
