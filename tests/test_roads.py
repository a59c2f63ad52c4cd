import itertools
import random
import unittest
from fractions import Fraction

from borderwright.errors import BadPaper, BadPart, BadPoint, BadSize, NoSuch
from borderwright.roads import (
    all_joined, by_length, check_way, fars, is_shorter, net_of, root, way, way_length, whole_length,
)
from helper import number, pair, part_of, refused_unchanged, spot, step, steps, tuples_all_through, unchanged

HALF = Fraction(1, 2)
BAD = ((1, 0), (0, 1))
# Two ways from (0, 0) to (2, 2), and a lot of its own.
NET = net_of(steps((0, 0, 1, 0), (1, 0, 2, 2), (0, 0, 0, 2), (0, 2, 2, 2), (2, 2, 3, 2), (8, 8, 9, 8)))


def far(one, other):
    """Return how far two pairs of numbers are apart, aside and up together."""
    return abs(one[0] - other[0]) + abs(one[1] - other[1])


def some_nets():
    """Return some nets of few points, most of them whole numbers, so that ways are often as long."""
    rand = random.Random(51)
    found = [{}, net_of(steps((0, 0, 1, 1)))]
    for _ in range(40):
        spots = list({(Fraction(rand.randint(0, 4), rand.choice((1, 1, 2))), Fraction(rand.randint(0, 2)))
                      for _ in range(rand.randint(2, 7))})
        share = rand.choice((0.3, 0.5, 0.8))
        found.append(net_of([step(one, other) for one, other in itertools.combinations(spots, 2)
                             if rand.random() < share]))
    return found


def least_by_trying(net, start):
    """Return a table of points to least lengths, by going on from all points until nothing gets less."""
    found = {start: Fraction(0)}
    changed = True
    while changed:
        changed = False
        for one in net:
            for other, more in net[one].items():
                if one in found and found[one] + number(more) < found.get(other, 10 ** 9):
                    found[other] = found[one] + number(more)
                    changed = True
    return found


def all_ways(net, start, end):
    """Return all rows of points, none twice, along pieces from a start to an end."""
    found = []
    waiting = [(start,)]
    while waiting:
        row = waiting.pop()
        if row[-1] == end:
            found.append(row)
        else:
            waiting.extend((*row, other) for other in net[row[-1]] if other not in row)
    return found


def long(row):
    """Return how long a row of points is."""
    return sum(far(pair(one), pair(other)) for one, other in zip(row, row[1:]))


class Net(unittest.TestCase):
    def test_of_pieces(self):
        found = unchanged(self, net_of, steps((0, 0, 1, 2), (1, 2, HALF, 0)))
        self.assertEqual(found, {spot(0, 0): {spot(1, 2): (3, 1)}, spot(HALF, 0): {spot(1, 2): (5, 2)},
                                 spot(1, 2): {spot(0, 0): (3, 1), spot(HALF, 0): (5, 2)}})
        self.assertEqual({one.__class__ for one in [found, *found.values()]}, {dict})
        self.assertEqual(net_of([]), {})
        self.assertEqual(net_of((step((3, 1), (1, 0)),)), {spot(3, 1): {spot(1, 0): (3, 1)},
                                                           spot(1, 0): {spot(3, 1): (3, 1)}})

    def test_pieces_told_twice_or_the_other_way_round(self):
        once = net_of(steps((0, 0, 1, 2)))
        self.assertEqual(net_of(steps((0, 0, 1, 2), (0, 0, 1, 2), (1, 2, 0, 0))), once)
        self.assertEqual(net_of(steps((1, 2, 0, 0))), once)

    def test_a_piece_to_nowhere_is_refused(self):
        for rows in (steps((1, 1, 1, 1)), steps((0, 0, 1, 2), (HALF, 0, HALF, 0)), steps((1, 1, 1, 1), (0, 0, 1, 2))):
            refused_unchanged(self, BadPoint, net_of, rows)

    def test_parts_by_nought_are_refused(self):
        refused_unchanged(self, BadPart, net_of, [(spot(0, 0), BAD)])


class Fars(unittest.TestCase):
    def test_points_that_can_be_come_to(self):
        found = unchanged(self, fars, NET, spot(0, 0))
        self.assertEqual(found, {spot(0, 0): (0, 1), spot(1, 0): (1, 1), spot(0, 2): (2, 1), spot(2, 2): (4, 1),
                                 spot(3, 2): (5, 1)})
        self.assertIs(found.__class__, dict)
        self.assertEqual(fars(NET, spot(8, 8)), {spot(8, 8): (0, 1), spot(9, 8): (1, 1)})

    def test_a_start_that_is_not_there(self):
        refused_unchanged(self, NoSuch, fars, NET, spot(5, 5))
        refused_unchanged(self, NoSuch, fars, {}, spot(0, 0))

    def test_a_long_way_round_that_is_shorter(self):
        # What is found first is not always the least.
        net = net_of(steps((0, 0, 9, 9), (0, 0, 3, 0), (3, 0, 3, 4), (3, 4, 9, 9), (9, 9, 10, 10)))
        net[spot(0, 0)][spot(9, 9)] = net[spot(9, 9)][spot(0, 0)] = (99, 1)
        self.assertEqual(fars(net, spot(0, 0))[spot(9, 9)], (18, 1))
        self.assertEqual(fars(net, spot(0, 0))[spot(10, 10)], (20, 1))

    def test_against_going_on_from_all_points(self):
        for net in some_nets():
            for start in net:
                self.assertEqual({one: number(much) for one, much in fars(net, start).items()},
                                 least_by_trying(net, start))

    def test_parts_by_nought_are_refused(self):
        net = {spot(0, 0): {spot(1, 0): (1, 0)}, spot(1, 0): {spot(0, 0): (1, 0)}}
        for work in (lambda one: fars(one, spot(0, 0)), lambda one: way(one, spot(0, 0), spot(1, 0)),
                     lambda one: way_length(one, [spot(0, 0), spot(1, 0)]),
                     lambda one: whole_length(one, [(spot(0, 0), spot(1, 0))])):
            refused_unchanged(self, BadPart, work, net)


class Way(unittest.TestCase):
    def test_from_start_to_end(self):
        found = unchanged(self, way, NET, spot(0, 0), spot(3, 2))
        self.assertEqual(found, (spot(0, 0), spot(0, 2), spot(2, 2), spot(3, 2)))
        tuples_all_through(self, found)

    def test_the_first_of_as_good_points_back(self):
        # By both (0, 2) and (1, 0) it is as far, and (0, 2) comes ahead, from whichever end one goes.
        self.assertEqual(way(NET, spot(0, 0), spot(2, 2)), (spot(0, 0), spot(0, 2), spot(2, 2)))
        self.assertEqual(way(NET, spot(2, 2), spot(0, 0)), (spot(2, 2), spot(0, 2), spot(0, 0)))
        # The first point back is told from the end: (1, 2) comes ahead of (2, 1), though (0, 1) is ahead of (1, 0).
        net = net_of(steps((0, 0, 1, 0), (0, 0, 0, 1), (1, 0, 1, 2), (0, 1, 2, 1), (1, 2, 2, 2), (2, 1, 2, 2)))
        self.assertEqual(way(net, spot(0, 0), spot(2, 2)), (spot(0, 0), spot(1, 0), spot(1, 2), spot(2, 2)))

    def test_none(self):
        self.assertIsNone(unchanged(self, way, NET, spot(0, 0), spot(9, 8)))
        self.assertIsNone(way(NET, spot(9, 8), spot(0, 0)))

    def test_a_start_and_an_end_that_are_one(self):
        self.assertEqual(way(NET, spot(8, 8), spot(8, 8)), (spot(8, 8),))

    def test_an_end_or_a_start_that_is_not_there(self):
        for start, end in (((0, 0), (5, 5)), ((5, 5), (0, 0)), ((5, 5), (5, 5)), ((5, 5), (6, 6))):
            refused_unchanged(self, NoSuch, way, NET, spot(*start), spot(*end))

    def test_against_all_ways(self):
        for net in some_nets():
            for start, end in itertools.product(net, repeat=2):
                rows = all_ways(net, start, end)
                if not rows:
                    self.assertIsNone(way(net, start, end))
                    continue
                least = min(long(row) for row in rows)
                rows = [row for row in rows if long(row) == least]
                wanted = min(rows, key=lambda row: [pair(one) for one in row[::-1]])
                self.assertEqual(way(net, start, end), wanted)

    def test_way_length(self):
        row = [spot(0, 0), spot(1, 0), spot(2, 2), spot(1, 0)]
        self.assertEqual(unchanged(self, way_length, NET, row), (7, 1))
        self.assertEqual(way_length(NET, tuple(row[:2])), (1, 1))
        tuples_all_through(self, way_length(NET, row))
        self.assertEqual(way_length(net_of(steps((0, 0, HALF, 0), (HALF, 0, 1, 0))), (
            spot(0, 0), spot(HALF, 0), spot(1, 0))), (1, 1))

    def test_way_length_of_one_point_or_none(self):
        self.assertEqual(way_length(NET, [spot(0, 0)]), (0, 1))
        self.assertEqual(way_length(NET, []), (0, 1))

    def test_way_length_where_no_piece_joins(self):
        for row in ([(0, 0), (2, 2)], [(0, 0), (1, 0), (0, 2)], [(0, 0), (0, 0)], [(5, 5), (0, 0)], [(0, 0), (5, 5)]):
            refused_unchanged(self, NoSuch, way_length, NET, [spot(*one) for one in row])


class Papers(unittest.TestCase):
    START = spot(0, 0)

    def test_ways_with_their_table_are_taken(self):
        table = fars(NET, self.START)
        for row in ([(0, 0)], [(0, 0), (1, 0), (2, 2)], [(0, 0), (0, 2), (2, 2), (3, 2)]):
            row = [spot(*one) for one in row]
            self.assertEqual(unchanged(self, check_way, NET, row, table), way_length(NET, row))
            tuples_all_through(self, check_way(NET, tuple(row), table))
        self.assertEqual(check_way(NET, [spot(0, 0), spot(1, 0)], table), (1, 1))

    def test_a_bare_row_is_refused(self):
        refused_unchanged(self, BadPaper, check_way, NET, [], fars(NET, self.START))

    def test_a_table_that_is_not_nought_at_the_start_is_refused(self):
        row, table = [self.START, spot(1, 0)], fars(NET, self.START)
        for other in ({one: part_of(number(much) + 1) for one, much in table.items()}, {},
                      {one: much for one, much in table.items() if one != self.START}, fars(NET, spot(1, 0))):
            refused_unchanged(self, BadPaper, check_way, NET, row, other)

    def test_a_piece_shorter_than_its_rise_is_refused(self):
        row, table = [self.START, spot(1, 0)], fars(NET, self.START)
        for other in ({**table, spot(3, 2): (6, 1)}, {**table, spot(0, 2): (5, 2)},
                      {one: much for one, much in table.items() if one != spot(3, 2)}, {self.START: (0, 1)}):
            refused_unchanged(self, BadPaper, check_way, NET, row, other)
        # A table may rise less than its pieces are long.
        self.assertEqual(check_way(NET, row, {**table, spot(3, 2): (4, 1)}), (1, 1))
        # It may tell points of another lot too, where no piece there is shorter than its rise.
        self.assertEqual(check_way(NET, row, {**table, spot(8, 8): (0, 1), spot(9, 8): (1, 1)}), (1, 1))
        refused_unchanged(self, BadPaper, check_way, NET, row, {**table, spot(8, 8): (0, 1), spot(9, 8): (2, 1)})

    def test_another_length_at_the_end_is_refused(self):
        table = fars(NET, self.START)
        for row in ([(0, 0), (1, 0), (0, 0)], [(0, 0), (1, 0), (0, 0), (1, 0)],
                    [(0, 0), (1, 0), (2, 2), (0, 2)]):
            refused_unchanged(self, BadPaper, check_way, NET, [spot(*one) for one in row], table)
        refused_unchanged(self, BadPaper, check_way, NET, [self.START, spot(1, 0)], {**table, spot(1, 0): (1, 2)})

    def test_points_that_no_piece_joins(self):
        table = fars(NET, self.START)
        for row in ([(0, 0), (2, 2)], [(0, 0), (0, 0)], [(0, 0), (5, 5)]):
            refused_unchanged(self, NoSuch, check_way, NET, [spot(*one) for one in row], table)
        # The table is looked through first.
        refused_unchanged(self, BadPaper, check_way, NET, [self.START, spot(2, 2)], {**table, spot(3, 2): (6, 1)})

    def test_no_paper_is_taken_that_tells_more_than_is_so(self):
        rand = random.Random(52)
        for net in some_nets():
            if len(net) > 5:
                continue
            for start in net:
                least = least_by_trying(net, start)
                rows = [row for end in net for row in all_ways(net, start, end)]
                true = fars(net, start)
                tables = [true] + [{one: part_of(number(much) + rand.choice((-1, 0, 0, HALF)))
                                    for one, much in true.items()} for _ in range(4)]
                for row, table in itertools.product(rows, tables):
                    try:
                        found = check_way(net, row, table)
                    except BadPaper:
                        self.assertFalse(table is true and long(row) == least[row[-1]])
                    else:
                        self.assertEqual(number(found), least[row[-1]])
                        self.assertEqual(long(row), least[row[-1]])

    def test_papers_that_are_made_are_taken(self):
        for net in some_nets():
            for start, end in itertools.product(net, repeat=2):
                table, row = fars(net, start), way(net, start, end)
                if row is not None:
                    self.assertEqual(check_way(net, row, table), table[end])


class Joined(unittest.TestCase):
    def test_least_in_all(self):
        net = net_of(steps((0, 0, 3, 0), (3, 0, 3, 1), (0, 0, 3, 1), (3, 1, 3, 3)))
        found = unchanged(self, all_joined, net)
        self.assertEqual(found, (step((3, 0), (3, 1)), step((3, 1), (3, 3)), step((0, 0), (3, 0))))
        tuples_all_through(self, found)
        self.assertEqual(all_joined({}), ())

    def test_ties_in_order(self):
        net = net_of(steps((1, 1, 0, 1), (1, 0, 1, 1), (0, 1, 0, 0), (1, 0, 0, 0)))
        self.assertEqual(all_joined(net), (step((0, 0), (0, 1)), step((0, 0), (1, 0)), step((0, 1), (1, 1))))

    def test_several_lots(self):
        self.assertEqual(all_joined(NET), (
            step((0, 0), (1, 0)), step((2, 2), (3, 2)), step((8, 8), (9, 8)), step((0, 0), (0, 2)),
            step((0, 2), (2, 2))))

    def test_against_trying_all_lots(self):
        for net in some_nets():
            rows = sorted({tuple(sorted((pair(one), pair(other)))) for one in net for other in net[one]},
                          key=lambda row: (far(*row), row))
            if len(rows) > 9:
                continue
            many = len(net) - len(self.lots(net, rows))
            # The lots are tried in order, so that the first least one is the first in order too.
            fit = [row for row in itertools.combinations(rows, many)
                   if len(self.lots(net, row)) == len(self.lots(net, rows))]
            least = min(sum(far(*one) for one in row) for row in fit)
            wanted = [row for row in fit if sum(far(*one) for one in row) == least][0]
            found = all_joined(net)
            self.assertEqual(tuple((pair(one), pair(other)) for one, other in found), wanted)
            self.assertEqual(number(whole_length(net, found)), least)

    def lots(self, net, rows):
        """Return the lots that pieces of pairs of numbers join a net's points to."""
        lots = [{pair(one)} for one in net]
        for one, other in rows:
            mine = [lot for lot in lots if one in lot or other in lot]
            lots = [lot for lot in lots if lot not in mine] + [set().union(*mine)]
        return lots

    def test_by_length(self):
        net = net_of(steps((0, 0, 3, 0), (3, 0, 3, 1), (0, 0, 3, 1), (3, 1, 3, 3), (0, 0, 0, 2)))
        rows = steps((3, 1, 3, 3), (0, 0, 3, 1), (3, 0, 3, 1), (0, 0, 0, 2), (0, 0, 3, 0))
        found = unchanged(self, by_length, net, rows)
        self.assertEqual(found, steps((3, 0, 3, 1), (0, 0, 0, 2), (3, 1, 3, 3), (0, 0, 3, 0), (0, 0, 3, 1)))
        self.assertIs(found.__class__, list)
        self.assertEqual(by_length(net, tuple(rows[:1])), rows[:1])
        self.assertEqual(by_length(net, []), [])
        self.assertEqual(by_length(net, steps((3, 1, 0, 0), (0, 0, 3, 1), (0, 0, 3, 1))), steps(
            (0, 0, 3, 1), (0, 0, 3, 1), (3, 1, 0, 0)))

    def test_is_shorter(self):
        net = net_of(steps((0, 0, 3, 0), (0, 0, 1, 2), (1, 2, 1, 1), (0, 0, HALF, 0)))
        self.assertIs(unchanged(self, is_shorter, net, step((1, 2), (1, 1)), step((0, 0), (1, 2))), True)
        self.assertIs(is_shorter(net, step((0, 0), (1, 2)), step((1, 2), (1, 1))), False)
        self.assertIs(is_shorter(net, step((0, 0), (HALF, 0)), step((1, 2), (1, 1))), True)
        self.assertIs(is_shorter(net, step((0, 0), (1, 2)), step((0, 0), (3, 0))), True)
        self.assertIs(is_shorter(net, step((0, 0), (3, 0)), step((0, 0), (1, 2))), False)
        self.assertIs(is_shorter(net, step((0, 0), (3, 0)), step((1, 2), (0, 0))), True)
        self.assertIs(is_shorter(net, step((3, 0), (0, 0)), step((1, 2), (0, 0))), False)
        self.assertIs(is_shorter(net, step((0, 0), (3, 0)), step((0, 0), (3, 0))), False)

    def test_root(self):
        a, b, c, d = spot(0, 0), spot(1, 0), spot(2, 0), spot(3, 0)
        lots = {a: b, b: c, c: c, d: d}
        self.assertEqual([unchanged(self, root, lots, one) for one in (a, b, c, d)], [c, c, c, d])
        tuples_all_through(self, root(lots, a))

    def test_whole_length(self):
        self.assertEqual(unchanged(self, whole_length, NET, steps((0, 0, 1, 0), (8, 8, 9, 8), (2, 2, 0, 2))), (4, 1))
        self.assertEqual(whole_length(NET, ()), (0, 1))
        tuples_all_through(self, whole_length(NET, steps((0, 0, 1, 0))))

    def test_whole_length_of_one_that_is_not_there(self):
        for rows in (steps((0, 0, 2, 2)), steps((0, 0, 1, 0), (5, 5, 0, 0)), steps((0, 0, 0, 0))):
            refused_unchanged(self, BadSize, whole_length, NET, rows)


if __name__ == "__main__":
    unittest.main()
