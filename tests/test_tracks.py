import random
import unittest
from fractions import Fraction

from borderwright.errors import BadPart, BadPoint, BadSize
from borderwright.points import between
from borderwright.tracks import (
    at_length, check_track, evenly, far_from, fewer, length_at, nearest_on, on_step, whole_way,
)
from helper import number, pair, part_of, refused_unchanged, ring, spot, tuples_all_through, unchanged

HALF = Fraction(1, 2)
HOOK = ring((0, 0), (4, 0), (4, 2), (1, 2))
BAD = ((1, 0), (0, 1))
NO_TRACKS = ([], (), [spot(0, 0)], [spot(0, 0), spot(0, 0)], list(ring((0, 0), (1, 1), (1, 1))),
             ring((2, 2), (2, 2), (0, 0)))


def square_far(one, other):
    """Return the square of how far two pairs of numbers are apart."""
    return (one[0] - other[0]) ** 2 + (one[1] - other[1]) ** 2


def far_off(start, end, one):
    """Return the square of how far a pair of numbers is from a step, by its ends and its foot."""
    found = [square_far(start, one), square_far(end, one)]
    x, y = end[0] - start[0], end[1] - start[1]
    if (x, y) != (0, 0):
        share = ((one[0] - start[0]) * x + (one[1] - start[1]) * y) / (x * x + y * y)
        if 0 <= share <= 1:
            found.append(square_far((start[0] + share * x, start[1] + share * y), one))
    return min(found)


def some_tracks():
    """Return some tracks."""
    rand = random.Random(71)
    found = [HOOK, ring((0, 0), (1, 0)), ring((0, 0), (2, 0), (0, 0))]
    for _ in range(40):
        row = [spot(rand.randint(0, 6), Fraction(rand.randint(0, 9), 2)) for _ in range(rand.randint(2, 8))]
        row = [one for one, other in zip(row, row[1:] + [None]) if one != other]
        if len(row) > 1:
            found.append(tuple(row))
    return found


class Tracks(unittest.TestCase):
    def test_check_track(self):
        found = unchanged(self, check_track, list(HOOK))
        self.assertEqual(found, HOOK)
        tuples_all_through(self, found)
        # A point may come again, where it isn't on end.
        back = ring((0, 0), (1, 0), (0, 0), (1, 0))
        self.assertEqual(check_track(back), back)

    def test_no_tracks_are_refused(self):
        for row in NO_TRACKS:
            for work in (check_track, whole_way):
                refused_unchanged(self, BadPoint, work, row)
            for work in (nearest_on, length_at):
                refused_unchanged(self, BadPoint, work, row, spot(0, 0))
            for work in (at_length, fewer):
                refused_unchanged(self, BadPoint, work, row, (1, 1))
            refused_unchanged(self, BadPoint, evenly, row, 2)

    def test_parts_by_nought_are_refused(self):
        row = [spot(0, 0), BAD]
        refused_unchanged(self, BadPart, whole_way, row)
        refused_unchanged(self, BadPart, nearest_on, row, spot(0, 0))
        refused_unchanged(self, BadPart, on_step, spot(0, 0), spot(1, 0), BAD)

    def test_whole_way(self):
        self.assertEqual(unchanged(self, whole_way, list(HOOK)), (9, 1))
        self.assertEqual(whole_way(ring((0, 0), (-HALF, 3))), (7, 2))
        self.assertEqual(whole_way(ring((0, 0), (1, 0), (0, 0))), (2, 1))
        tuples_all_through(self, whole_way(HOOK))


class Nearest(unittest.TestCase):
    def test_on_step_at_ends_and_between(self):
        start, end = spot(1, 1), spot(5, 3)
        for one, found in (((3, 2), (3, 2)), ((2, 4), (3, 2)), ((0, 0), (1, 1)), ((1, 0), (1, 1)), ((9, 9), (5, 3)),
                           ((5, 3), (5, 3)), ((1, 1), (1, 1)), ((2, 1), (Fraction(9, 5), Fraction(7, 5))),
                           ((0, 3), (1, 1)), ((4, 5), (5, 3)),
                           ((0, Fraction(7, 2)), (Fraction(6, 5), Fraction(11, 10)))):
            self.assertEqual(unchanged(self, on_step, start, end, spot(*one)), spot(*found))
            self.assertEqual(on_step(end, start, spot(*one)), spot(*found))
        tuples_all_through(self, on_step(start, end, spot(2, 1)))

    def test_on_step_to_nowhere_is_refused(self):
        refused_unchanged(self, BadPart, on_step, spot(1, 1), spot(1, 1), spot(0, 0))

    def test_nearest_on(self):
        found = unchanged(self, nearest_on, list(HOOK), spot(2, HALF))
        self.assertEqual(found, ((1, 4), 0, spot(2, 0)))
        tuples_all_through(self, found)
        self.assertEqual(nearest_on(HOOK, spot(9, 1)), ((25, 1), 1, spot(4, 1)))
        self.assertEqual(nearest_on(HOOK, spot(0, 3)), ((2, 1), 2, spot(1, 2)))

    def test_ties_go_to_the_first_step(self):
        self.assertEqual(nearest_on(HOOK, spot(2, 1)), ((1, 1), 0, spot(2, 0)))
        self.assertEqual(nearest_on(HOOK[::-1], spot(2, 1)), ((1, 1), 0, spot(2, 2)))
        self.assertEqual(nearest_on(HOOK, spot(9, -9)), ((106, 1), 0, spot(4, 0)))
        self.assertEqual(nearest_on(ring((0, 0), (2, 0), (0, 0)), spot(1, 1)), ((1, 1), 0, spot(1, 0)))

    def test_nearest_against_all_steps(self):
        rand = random.Random(72)
        for row in some_tracks():
            one = spot(rand.randint(-2, 8), Fraction(rand.randint(-2, 12), 2))
            fars = [far_off(pair(start), pair(end), pair(one)) for start, end in zip(row, row[1:])]
            far, place, here = nearest_on(row, one)
            self.assertEqual((number(far), place), (min(fars), fars.index(min(fars))))
            self.assertTrue(between(row[place], row[place + 1], here))
            self.assertEqual(square_far(pair(here), pair(one)), min(fars))

    def test_far_from(self):
        self.assertEqual(unchanged(self, far_from, spot(0, 0), spot(4, 0), spot(2, 3)), (9, 1))
        self.assertEqual(far_from(spot(0, 0), spot(4, 0), spot(7, 4)), (25, 1))
        self.assertEqual(far_from(spot(0, 0), spot(2, 2), spot(1, 0)), (1, 2))
        self.assertEqual(far_from(spot(1, 1), spot(1, 1), spot(4, 5)), (25, 1))
        self.assertEqual(far_from(spot(1, 1), spot(1, 1), spot(1, 1)), (0, 1))
        tuples_all_through(self, far_from(spot(0, 0), spot(4, 0), spot(2, 3)))


class Lengths(unittest.TestCase):
    def test_at_length(self):
        for far, found in ((0, (0, 0)), (1, (1, 0)), (4, (4, 0)), (HALF, (HALF, 0)), (5, (4, 1)), (6, (4, 2)),
                           (Fraction(15, 2), (5 * HALF, 2)), (9, (1, 2)), (10, (1, 2)), (99, (1, 2))):
            self.assertEqual(unchanged(self, at_length, list(HOOK), part_of(far)), spot(*found))
        tuples_all_through(self, at_length(HOOK, (1, 1)))
        # Aside and up together: half as long is half the way.
        self.assertEqual(at_length(ring((0, 0), (3, 1)), (2, 1)), spot(3 * HALF, HALF))

    def test_at_length_below_nought_is_refused(self):
        for far in ((-1, 1), (-1, 9)):
            refused_unchanged(self, BadSize, at_length, HOOK, far)
        refused_unchanged(self, BadSize, at_length, [], (-1, 1))

    def test_length_at(self):
        for one, found in (((0, 0), 0), ((1, 0), 1), ((4, 0), 4), ((4, 1), 5), ((4, 2), 6), ((2, 2), 8), ((1, 2), 9),
                           ((0, 9), 9), ((2, -5), 2), ((9, 1), 5), ((HALF, 0), HALF)):
            self.assertEqual(unchanged(self, length_at, list(HOOK), spot(*one)), part_of(found))
        tuples_all_through(self, length_at(HOOK, spot(0, 0)))

    def test_length_at_the_first_of_such(self):
        self.assertEqual(length_at(HOOK, spot(2, 1)), (2, 1))
        self.assertEqual(length_at(ring((0, 0), (2, 0), (0, 0)), spot(HALF, 0)), (1, 2))
        self.assertEqual(length_at(ring((0, 0), (2, 0), (2, 2), (0, 0)), spot(0, 0)), (0, 1))

    def test_there_and_back(self):
        rand = random.Random(73)
        for row in some_tracks():
            whole = number(whole_way(row))
            for _ in range(6):
                far = whole * rand.randint(0, 8) / 8
                here = at_length(row, part_of(far))
                back = length_at(row, here)
                self.assertLessEqual(number(back), far)
                self.assertEqual(at_length(row, back), here)
            one = spot(rand.randint(-2, 8), rand.randint(-2, 8))
            self.assertEqual(at_length(row, length_at(row, one)), nearest_on(row, one)[2])

    def test_evenly(self):
        found = unchanged(self, evenly, list(HOOK), 4)
        self.assertEqual(found, ring((0, 0), (3, 0), (4, 2), (1, 2)))
        tuples_all_through(self, found)
        self.assertEqual(evenly(HOOK, 2), ring((0, 0), (1, 2)))
        self.assertEqual(evenly(HOOK, 3), ring((0, 0), (4, HALF), (1, 2)))
        for row in some_tracks():
            for many in (2, 5, 6):
                wanted = [at_length(row, part_of(number(whole_way(row)) * k / (many - 1))) for k in range(many)]
                self.assertEqual(evenly(row, many), tuple(wanted))
                self.assertEqual((wanted[0], wanted[-1]), (row[0], row[-1]))

    def test_evenly_below_two_is_refused(self):
        for many in (1, 0, -1):
            refused_unchanged(self, BadSize, evenly, HOOK, many)
            refused_unchanged(self, BadSize, evenly, [], many)


class Fewer(unittest.TestCase):
    ZIGZAG = ring((0, 0), (1, 1), (2, 0), (3, 2), (4, 0))

    def test_as_far_off_as_told_and_further(self):
        for most, found in (((0, 1), (0, 1, 2, 3, 4)), ((1, 4), (0, 1, 2, 3, 4)), ((1, 3), (0, 1, 2, 3, 4)),
                            ((2, 1), (0, 3, 4)), ((4, 1), (0, 4)), ((399, 100), (0, 3, 4)), ((9, 1), (0, 4))):
            self.assertEqual(unchanged(self, fewer, list(self.ZIGZAG), most), tuple(self.ZIGZAG[k] for k in found))
        tuples_all_through(self, fewer(self.ZIGZAG, (1, 1)))

    def test_points_of_a_line_go(self):
        row = ring((0, 0), (1, 0), (3, 0), (7, 0), (7, 1), (7, 5))
        self.assertEqual(fewer(row, (0, 1)), ring((0, 0), (7, 0), (7, 5)))

    def test_the_first_of_such_stays(self):
        self.assertEqual(fewer(ring((0, 0), (1, 2), (2, 2), (3, 2), (4, 0)), (3, 1)), ring((0, 0), (1, 2), (4, 0)))
        # By the last of such the first one would be less far off, and go.
        self.assertEqual(fewer(ring((0, 0), (1, 2), (3, 2), (4, 0)), (1, 1)), ring((0, 0), (1, 2), (3, 2), (4, 0)))
        self.assertEqual(fewer(ring((0, 0), (1, 2), (3, 2), (4, 0)), (17, 10)), ring((0, 0), (1, 2), (4, 0)))

    def test_tracks_that_come_back_to_where_they_began(self):
        row = ring((0, 0), (3, 0), (3, 4), (0, 4), (0, 0))
        self.assertEqual(fewer(row, (24, 1)), ring((0, 0), (3, 4), (0, 0)))
        self.assertEqual(fewer(row, (25, 1)), ring((0, 0), (0, 0)))
        self.assertEqual(fewer(row, (1, 1)), row)
        self.assertEqual(fewer(ring((1, 1), (4, 5), (1, 1)), (24, 1)), ring((1, 1), (4, 5), (1, 1)))

    def test_two_points_stay(self):
        self.assertEqual(fewer(ring((0, 0), (1, 0)), (99, 1)), ring((0, 0), (1, 0)))

    def test_none_left_out_is_further_off(self):
        rand = random.Random(74)
        for row in some_tracks():
            most = Fraction(rand.randint(0, 20), 4)
            found = unchanged(self, fewer, row, part_of(most))
            self.assertEqual(found, self.kept(row, most))
            self.assertEqual((found[0], found[-1]), (row[0], row[-1]))

    def kept(self, row, most):
        """Return a track's points that stay, by going into both sides of the furthest one."""
        rows = [far_off(pair(row[0]), pair(row[-1]), pair(one)) for one in row[1:-1]]
        if not rows or max(rows) <= most:
            return (row[0], row[-1])
        place = rows.index(max(rows)) + 1
        return self.kept(row[:place + 1], most)[:-1] + self.kept(row[place:], most)

    def test_a_long_track(self):
        row = [spot(x, x % 2) for x in range(600)]
        self.assertEqual(fewer(row, (1, 4)), tuple(row))
        self.assertEqual(fewer(row, (1, 1)), (row[0], row[-1]))


if __name__ == "__main__":
    unittest.main()
