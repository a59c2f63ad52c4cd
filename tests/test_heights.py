import itertools
import random
import unittest
from fractions import Fraction

from borderwright.errors import BadPart, BadSize
from borderwright.heights import (
    basins, check_heights, crossings, drained, even_level, filled, flows, height_at, highest, lakes, moved_earth,
    squares_beside, stands,
)
from helper import number, pair, part_of, refused_unchanged, spot, tuples_all_through, unchanged

HALF = Fraction(1, 2)
POND = [[5, 5, 5, 5], [5, 1, 2, 5], [5, 5, 4, 5], [5, 5, 5, 5]]
BAD_ROWS = ([], (), [[]], [(), ()], [[1, 2], [3]], ((1,), (2, 3)), [[1], []], [[], [1]])


def some_rows():
    """Return some rows of whole heights."""
    rand = random.Random(61)
    found = [[[3]], [[1, 2, 1]], [[2], [0], [2]], POND]
    for _ in range(30):
        wide, high = rand.randint(1, 6), rand.randint(1, 6)
        most = rand.choice((1, 2, 5))
        found.append([[rand.randint(-most, most) for _ in range(wide)] for _ in range(high)])
    return found


def squares_of(rows):
    """Return all squares of rows."""
    return list(itertools.product(range(len(rows[0])), range(len(rows))))


def beside(rows, x, y):
    """Return the squares of rows that share a side with one, in order."""
    return sorted(one for one in squares_of(rows) if abs(one[0] - x) + abs(one[1] - y) == 1)


def is_outer(rows, x, y):
    """Tell whether a square is an outer one."""
    return x in (0, len(rows[0]) - 1) or y in (0, len(rows) - 1)


def gets_out(rows, x, y, level):
    """Tell whether water as high as a level gets from a square to an outer one over squares no higher."""
    lot, waiting = {(x, y)}, [(x, y)]
    while waiting:
        here = waiting.pop()
        if is_outer(rows, *here):
            return True
        for one in beside(rows, *here):
            if one not in lot and rows[one[1]][one[0]] <= level:
                lot.add(one)
                waiting.append(one)
    return False


def filled_by_trying(rows):
    """Return the least heights from which water gets out, by trying each level."""
    levels = sorted({height for row in rows for height in row})
    return tuple(tuple(min(level for level in levels if level >= rows[y][x] and gets_out(rows, x, y, level))
                       for x in range(len(rows[0]))) for y in range(len(rows)))


class Rows(unittest.TestCase):
    def test_check_heights(self):
        found = unchanged(self, check_heights, [[1, 2], (3, -4)])
        self.assertEqual(found, ((1, 2), (3, -4)))
        tuples_all_through(self, found)
        self.assertEqual(check_heights(((7,),)), ((7,),))

    def test_bad_rows_are_refused(self):
        for rows in BAD_ROWS:
            for work in (check_heights, flows, basins, filled, stands, lakes, drained, even_level, highest):
                refused_unchanged(self, BadSize, work, rows)
            for work in (moved_earth, crossings):
                refused_unchanged(self, BadSize, work, rows, 1)
            refused_unchanged(self, BadSize, height_at, rows, 0, 0, (0, 1), (0, 1))

    def test_squares_beside(self):
        rows = [[0] * 4 for _ in range(3)]
        self.assertEqual(unchanged(self, squares_beside, rows, 1, 1), [(0, 1), (1, 0), (1, 2), (2, 1)])
        self.assertIs(squares_beside(rows, 1, 1).__class__, list)
        self.assertEqual(squares_beside(rows, 0, 0), [(0, 1), (1, 0)])
        self.assertEqual(squares_beside(rows, 3, 2), [(2, 2), (3, 1)])
        self.assertEqual(squares_beside(rows, 3, 0), [(2, 0), (3, 1)])
        self.assertEqual(squares_beside(rows, 2, 0), [(1, 0), (2, 1), (3, 0)])
        self.assertEqual(squares_beside([[1]], 0, 0), [])
        for some in some_rows():
            for x, y in squares_of(some):
                self.assertEqual(squares_beside(some, x, y), beside(some, x, y))


class Flows(unittest.TestCase):
    def test_flows(self):
        found = unchanged(self, flows, [[3, 2], [1, 2]])
        self.assertEqual(found, {(0, 0): (0, 1), (1, 0): None, (0, 1): None, (1, 1): (0, 1)})
        self.assertIs(found.__class__, dict)

    def test_ties_go_to_the_first_in_order(self):
        self.assertEqual(flows([[9, 1, 9], [1, 5, 1], [9, 1, 9]])[(1, 1)], (0, 1))
        self.assertEqual(flows([[9, 1, 9], [5, 5, 1], [9, 1, 9]])[(1, 1)], (1, 0))
        self.assertEqual(flows([[9, 5, 9], [5, 5, 1], [9, 1, 9]])[(1, 1)], (1, 2))
        self.assertEqual(flows([[9, 5, 9], [5, 5, 1], [9, 5, 9]])[(1, 1)], (2, 1))
        self.assertEqual(flows([[9, 1, 9], [1, 5, 0], [9, 1, 9]])[(1, 1)], (2, 1))

    def test_water_stays_where_nothing_is_lower(self):
        self.assertEqual(flows([[2, 2], [2, 3]]), {(0, 0): None, (1, 0): None, (0, 1): None, (1, 1): (0, 1)})
        self.assertEqual(flows([[7]]), {(0, 0): None})

    def test_against_all_beside(self):
        for rows in some_rows():
            wanted = {}
            for x, y in squares_of(rows):
                about = [(rows[up][aside], aside, up) for aside, up in beside(rows, x, y)]
                lower = [row for row in about if row[0] < rows[y][x]]
                wanted[(x, y)] = min(lower)[1:] if lower else None
            self.assertEqual(unchanged(self, flows, rows), wanted)

    def test_basins(self):
        found = unchanged(self, basins, [[3, 2, 1, 2, 0]])
        self.assertEqual(found, {(0, 0): (2, 0), (1, 0): (2, 0), (2, 0): (2, 0), (3, 0): (4, 0), (4, 0): (4, 0)})
        self.assertIs(found.__class__, dict)
        for rows in some_rows():
            goes = flows(rows)
            wanted = {}
            for square in goes:
                wanted[square] = square
                while goes[wanted[square]] is not None:
                    wanted[square] = goes[wanted[square]]
            self.assertEqual(basins(rows), wanted)

    def test_drained(self):
        found = unchanged(self, drained, [[3, 2, 1, 2, 0]])
        self.assertEqual(found, {(0, 0): 1, (1, 0): 2, (2, 0): 3, (3, 0): 1, (4, 0): 2})
        self.assertIs(found.__class__, dict)
        for rows in some_rows():
            goes = flows(rows)
            wanted = {square: 0 for square in goes}
            for square in goes:
                while square is not None:
                    wanted[square] += 1
                    square = goes[square]
            self.assertEqual(unchanged(self, drained, rows), wanted)

    def test_a_long_way_down(self):
        rows = [list(range(1500, 0, -1))]
        self.assertEqual(basins(rows)[(0, 0)], (1499, 0))
        self.assertEqual(drained(rows)[(1499, 0)], 1500)


class Filled(unittest.TestCase):
    def test_filled(self):
        found = unchanged(self, filled, POND)
        self.assertEqual(found, ((5, 5, 5, 5), (5, 5, 5, 5), (5, 5, 5, 5), (5, 5, 5, 5)))
        tuples_all_through(self, found)
        self.assertEqual(filled([[5, 5, 5], [5, 0, 3], [5, 5, 5]]), ((5, 5, 5), (5, 3, 3), (5, 5, 5)))
        self.assertEqual(filled([[5, 1, 5]]), ((5, 1, 5),))

    def test_corners_alone_let_no_water_out(self):
        self.assertEqual(filled([[0, 9, 9], [9, 2, 9], [9, 9, 0]]), ((0, 9, 9), (9, 9, 9), (9, 9, 0)))

    def test_against_trying_each_level(self):
        for rows in some_rows():
            self.assertEqual(unchanged(self, filled, rows), filled_by_trying(rows))

    def test_stands(self):
        self.assertEqual(unchanged(self, stands, POND), 4 + 3 + 1)
        self.assertEqual(stands([[1, 0], [0, 1]]), 0)
        for rows in some_rows():
            levels = filled_by_trying(rows)
            self.assertEqual(stands(rows), sum(levels[y][x] - rows[y][x] for x, y in squares_of(rows)))

    def test_lakes(self):
        found = unchanged(self, lakes, POND)
        self.assertEqual(found, (((1, 1), (2, 1), (2, 2)),))
        tuples_all_through(self, found)
        self.assertEqual(lakes([[1, 2, 3]]), ())

    def test_lakes_in_order_by_x_then_y(self):
        rows = [[9] * 6 for _ in range(5)]
        for x, y in ((4, 1), (1, 3), (2, 3), (2, 1), (4, 3)):
            rows[y][x] = x
        self.assertEqual(lakes(rows), (((1, 3), (2, 3)), ((2, 1),), ((4, 1),), ((4, 3),)))

    def test_lakes_that_meet_at_a_corner_are_two(self):
        rows = [[9] * 4, [9, 1, 9, 9], [9, 9, 1, 9], [9] * 4]
        self.assertEqual(lakes(rows), (((1, 1),), ((2, 2),)))

    def test_lakes_against_all_squares(self):
        for rows in some_rows():
            levels = filled_by_trying(rows)
            wet = [(x, y) for x, y in squares_of(rows) if levels[y][x] > rows[y][x]]
            lots = []
            for one in wet:
                mine = [lot for lot in lots if any(abs(one[0] - x) + abs(one[1] - y) == 1 for x, y in lot)]
                lots = [lot for lot in lots if lot not in mine] + [sum(mine, [one])]
            self.assertEqual(lakes(rows), tuple(sorted(tuple(sorted(lot)) for lot in lots)))


class Earth(unittest.TestCase):
    def test_moved_earth(self):
        found = unchanged(self, moved_earth, [[1, 5], [3, -2]], 2)
        self.assertEqual(found, (4, 5))
        tuples_all_through(self, found)
        self.assertEqual(moved_earth([[2, 2]], 2), (0, 0))
        self.assertEqual(moved_earth([[2, 2]], -1), (6, 0))
        self.assertEqual(moved_earth([[2, 2]], 4), (0, 4))

    def test_even_level(self):
        found = unchanged(self, even_level, [[1, 5], [3, -2]])
        self.assertEqual(found, (7, 4))
        tuples_all_through(self, found)
        self.assertEqual(even_level([[2, 4]]), (3, 1))
        self.assertEqual(even_level([[-1, 0, 0]]), (-1, 3))

    def test_as_much_is_dug_as_filled(self):
        for rows in some_rows():
            level = number(even_level(rows))
            self.assertEqual(sum(height - level for row in rows for height in row), 0)
            for whole in range(-5, 6):
                dug, put = moved_earth(rows, whole)
                self.assertEqual(dug - put, sum(height - whole for row in rows for height in row))
                self.assertEqual((dug, put), (sum(max(height - whole, 0) for row in rows for height in row),
                                              sum(max(whole - height, 0) for row in rows for height in row)))

    def test_highest(self):
        found = unchanged(self, highest, [[5, 1, 4], [1, 3, 1], [4, 1, 5]])
        self.assertEqual(found, ((0, 0), (0, 2), (1, 1), (2, 0), (2, 2)))
        tuples_all_through(self, found)
        self.assertEqual(highest([[7]]), ((0, 0),))

    def test_alike_heights_beside_each_other_are_not_highest(self):
        self.assertEqual(highest([[5, 5, 4]]), ())
        self.assertEqual(highest([[5, 5, 4, 6]]), ((3, 0),))
        # At a corner alone nothing is beside.
        self.assertEqual(highest([[5, 1], [1, 5]]), ((0, 0), (1, 1)))
        for rows in some_rows():
            self.assertEqual(highest(rows), tuple(sorted(
                (x, y) for x, y in squares_of(rows)
                if all(rows[up][aside] < rows[y][x] for aside, up in beside(rows, x, y)))))


class Lines(unittest.TestCase):
    def test_to_the_right_up_and_both(self):
        self.assertEqual(unchanged(self, crossings, [[0, 4]], 1), (spot(Fraction(1, 4), 0),))
        self.assertEqual(crossings([[0], [4]], 3), (spot(0, Fraction(3, 4)),))
        found = crossings([[0, 4], [4, 8]], 2)
        self.assertEqual(found, (spot(HALF, 0), spot(0, HALF), spot(Fraction(1, 4), Fraction(1, 4))))
        tuples_all_through(self, found)
        self.assertEqual(crossings([[4, 0], [8, 4]], 2), (spot(HALF, 0), spot(1, HALF)))

    def test_row_by_row(self):
        found = crossings([[0, 2, 0], [2, 0, 2]], 1)
        self.assertEqual(found, (
            spot(HALF, 0), spot(0, HALF),
            spot(3 * HALF, 0), spot(1, HALF),
            spot(2, HALF),
            spot(HALF, 1), spot(3 * HALF, 1)))

    def test_one_below_the_level_and_the_other_not(self):
        self.assertEqual(crossings([[1, 3]], 1), ())
        self.assertEqual(crossings([[1, 3]], 3), (spot(1, 0),))
        self.assertEqual(crossings([[3, 1]], 3), (spot(0, 0),))
        self.assertEqual(crossings([[3, 3]], 3), ())
        self.assertEqual(crossings([[1, 1]], 3), ())
        self.assertEqual(crossings([[1, 3]], 4), ())
        self.assertEqual(crossings([[7]], 7), ())

    def test_against_all_middles(self):
        for rows in some_rows():
            for level in range(-3, 5):
                wanted = []
                for y, x in itertools.product(range(len(rows)), range(len(rows[0]))):
                    for aside, up in ((1, 0), (0, 1), (1, 1)):
                        if x + aside < len(rows[0]) and y + up < len(rows):
                            low, high = rows[y][x], rows[y + up][x + aside]
                            if min(low, high) < level <= max(low, high):
                                share = Fraction(level - low, high - low)
                                wanted.append((x + share * aside, y + share * up))
                self.assertEqual([pair(one) for one in unchanged(self, crossings, rows, level)], wanted)

    def test_heights_at_crossings_are_the_level(self):
        for rows in some_rows():
            for one in crossings(rows, 1):
                x, y = pair(one)
                low_x, low_y = min(int(x), len(rows[0]) - 2), min(int(y), len(rows) - 2)
                if low_x >= 0 and low_y >= 0:
                    found = height_at(rows, low_x, low_y, part_of(x - low_x), part_of(y - low_y))
                    self.assertEqual(found, (1, 1))


class Heights(unittest.TestCase):
    ROWS = [[0, 6, 9], [12, 30, 1]]

    def test_at_the_middles(self):
        for right, up, height in ((0, 0, 0), (1, 0, 6), (0, 1, 12), (1, 1, 30)):
            self.assertEqual(unchanged(self, height_at, self.ROWS, 0, 0, (right, 1), (up, 1)), (height, 1))
        self.assertEqual(height_at(self.ROWS, 1, 0, (0, 1), (1, 1)), (30, 1))
        self.assertEqual(height_at(self.ROWS, 1, 0, (1, 1), (1, 1)), (1, 1))

    def test_over_each_of_the_threes(self):
        # To the right: 0, 6 and 30; up: 0, 12 and 30.
        self.assertEqual(height_at(self.ROWS, 0, 0, (1, 1), (1, 2)), (18, 1))
        self.assertEqual(height_at(self.ROWS, 0, 0, (1, 2), (1, 1)), (21, 1))
        self.assertEqual(height_at(self.ROWS, 0, 0, (1, 2), (0, 1)), (3, 1))
        self.assertEqual(height_at(self.ROWS, 0, 0, (0, 1), (1, 2)), (6, 1))
        self.assertEqual(height_at(self.ROWS, 0, 0, (1, 2), (1, 4)), (9, 1))
        self.assertEqual(height_at(self.ROWS, 0, 0, (1, 4), (1, 2)), (21, 2))
        self.assertEqual(height_at(self.ROWS, 0, 0, (2, 3), (1, 7)), (52, 7))
        tuples_all_through(self, height_at(self.ROWS, 0, 0, (1, 4), (1, 2)))

    def test_shares_alike(self):
        for top in range(8):
            self.assertEqual(number(height_at(self.ROWS, 0, 0, (top, 7), (top, 7))), Fraction(30 * top, 7))
            self.assertEqual(height_at(self.ROWS, 0, 0, (top, 7), (top, 7)), height_at(
                [[0, -5, 0], [99, 30, 0]], 0, 0, (top, 7), (top, 7)))

    def test_against_shares_of_the_corners(self):
        rand = random.Random(62)
        for _ in range(60):
            rows = [[rand.randint(-9, 9) for _ in range(3)] for _ in range(3)]
            x, y = rand.randint(0, 1), rand.randint(0, 1)
            right, up = Fraction(rand.randint(0, 6), 6), Fraction(rand.randint(0, 5), 5)
            most, least = max(right, up), min(right, up)
            corner = rows[y][x + 1] if right > up else rows[y + 1][x]
            wanted = rows[y][x] * (1 - most) + corner * (most - least) + rows[y + 1][x + 1] * least
            self.assertEqual(number(height_at(rows, x, y, part_of(right), part_of(up))), wanted)

    def test_outside_is_refused(self):
        for x, y in ((-1, 0), (0, -1), (2, 0), (0, 1), (5, 5)):
            refused_unchanged(self, BadSize, height_at, self.ROWS, x, y, (0, 1), (0, 1))
        for rows in ([[1, 2, 3]], [[1], [2]], [[1]]):
            refused_unchanged(self, BadSize, height_at, rows, 0, 0, (0, 1), (0, 1))

    def test_shares_by_nought_are_refused(self):
        refused_unchanged(self, BadPart, height_at, self.ROWS, 0, 0, (1, 0), (0, 1))
        refused_unchanged(self, BadPart, height_at, self.ROWS, 0, 0, (0, 1), (1, 0))


if __name__ == "__main__":
    unittest.main()
