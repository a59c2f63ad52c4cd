import itertools
import random
import unittest
from fractions import Fraction

from borderwright.errors import BadPaper, BadPart, BadRing
from borderwright.maps import Map
from borderwright.merges import rings_round
from borderwright.parts import total
from borderwright.points import middle, side
from borderwright.rings import area, hull, where
from borderwright.triangles import (
    check_threes, ears, edges_in, first_ear, flipped_round, in_round, in_three, is_round, joined, left_three,
    new_ring, outer_size, roundest, tidy_hull,
)
from helper import (
    box_ring, number, pair, refused_unchanged, ring, ring_steps, spot, step, tuples_all_through, turned, unchanged,
)

HALF = Fraction(1, 2)
BAD = ((1, 0), (0, 1))


def lot(threes):
    """Return threes so that two lots of them can be compared, whatever order they and their corners stand in."""
    return sorted(turned(three) for three in threes)


def size(rows):
    """Return how great rings are together, below nought where they turn right."""
    return sum(number(area(row)) for row in rows)


def some_rings(rand, many):
    """Return some rings, bulging or not: those round threes of some joined points."""
    found = []
    while len(found) < many:
        spots = [spot(rand.randint(0, 5), rand.randint(0, 5)) for _ in range(rand.randint(4, 11))]
        if all(side(one, other, third) == 0 for one, other, third in itertools.combinations(spots, 3)):
            continue
        threes = [three for three in joined(spots) if rand.random() < 0.8]
        for row in rings_round([(three, ()) for three in threes]):
            found.append(row if rand.random() < HALF else row[::-1])
    return found


def circle_side(three, one):
    """Return one for a point within the round through three corners, nought on it, minus one out, by its middle."""
    (ax, ay), (bx, by), (cx, cy) = [pair(corner) for corner in three]
    low = 2 * (ax * (by - cy) + bx * (cy - ay) + cx * (ay - by))
    x = ((ax * ax + ay * ay) * (by - cy) + (bx * bx + by * by) * (cy - ay) + (cx * cx + cy * cy) * (ay - by)) / low
    y = ((ax * ax + ay * ay) * (cx - bx) + (bx * bx + by * by) * (ax - cx) + (cx * cx + cy * cy) * (bx - ax)) / low
    here_x, here_y = pair(one)
    far = (ax - x) ** 2 + (ay - y) ** 2 - (here_x - x) ** 2 - (here_y - y) ** 2
    return (far > 0) - (far < 0)


class Ears(unittest.TestCase):
    def test_a_three(self):
        row = ring((0, 0), (2, 0), (0, 2))
        found = unchanged(self, ears, list(row))
        self.assertEqual(lot(found), [row])
        tuples_all_through(self, found)

    def test_a_box(self):
        found = ears(box_ring(0, 0, 1, 1))
        self.assertEqual(lot(found), lot([ring((0, 1), (0, 0), (1, 0)), ring((1, 0), (1, 1), (0, 1))]))
        self.assertEqual(turned(found[0]), turned(ring((0, 1), (0, 0), (1, 0))))

    def test_either_way_round_and_from_any_corner(self):
        row = ring((0, 0), (4, 0), (4, 4), (2, 1), (0, 4))
        wanted = ears(row)
        for place in range(5):
            self.assertEqual(ears(row[place:] + row[:place]), wanted)
            self.assertEqual(ears((row[place:] + row[:place])[::-1]), wanted)

    def test_the_first_ear_each_time(self):
        # (0, 0) is no ear, for (1, 1) lies in its three; (6, 0) is.
        found = ears(ring((0, 0), (6, 0), (1, 1), (0, 6)))
        self.assertEqual([turned(three) for three in found],
                         [turned(ring((0, 0), (6, 0), (1, 1))), turned(ring((0, 0), (1, 1), (0, 6)))])
        # A corner on the three's edge bars it just as well.
        found = ears(ring((0, 0), (2, 0), (1, 1), (2, 4), (0, 2)))
        self.assertEqual(turned(found[0]), turned(ring((0, 0), (2, 0), (1, 1))))

    def test_flat_corners(self):
        row = ring((0, 0), (1, 0), (2, 0), (2, 2), (1, 2), (0, 2), (0, 1))
        found = ears(row)
        self.assertEqual(size(found), 4)
        self.assertTrue(all(number(area(three)) > 0 for three in found))
        self.assertEqual(check_threes(row, found), len(found))
        # A corner where the ring goes straight on may still be a corner of the ear ahead of it.
        self.assertEqual(lot(ears(ring((0, 0), (2, 0), (4, 0), (0, 4)))),
                         lot([ring((0, 4), (0, 0), (2, 0)), ring((0, 4), (2, 0), (4, 0))]))

    def test_a_straight_place_ahead_of_any_ear_is_left_out(self):
        # (0, 0) is no ear, for (1, 1) lies in its three; (2, 0) goes straight on.
        found = ears(ring((0, 0), (2, 0), (4, 0), (1, 1), (0, 4)))
        self.assertEqual(lot(found), lot([ring((0, 0), (4, 0), (1, 1)), ring((0, 0), (1, 1), (0, 4))]))
        self.assertEqual(check_threes(ring((0, 0), (2, 0), (4, 0), (1, 1), (0, 4)), found), 2)

    def test_what_can_not_be_cut_is_refused(self):
        for row in (ring((0, 0), (2, 2), (2, 0), (0, 2)), ring((0, 0), (1, 0), (2, 0)), ring((0, 0), (1, 0)), ()):
            refused_unchanged(self, BadRing, ears, row)
        self.assertRaises(BadPart, ears, [spot(0, 0), spot(1, 0), BAD])

    def test_any_ring(self):
        rand = random.Random(20)
        for row in some_rings(rand, 60):
            place = rand.randrange(len(row))
            flat = row[:place] + (middle(row[place - 1], row[place]),) + row[place:]
            for one in (row, flat):
                found = ears(one)
                self.assertEqual(size(found), abs(number(area(one))))
                self.assertEqual({corner for three in found for corner in three} - set(one), set())
                self.assertEqual(check_threes(one, found), len(found))
                self.assertEqual(Map({f"{k}": [three] for k, three in enumerate(found)}).gaps(), ())

    def test_first_ear(self):
        self.assertEqual(unchanged(self, first_ear, list(box_ring(0, 0, 1, 1))), 0)
        self.assertEqual(first_ear(ring((0, 0), (6, 0), (1, 1), (0, 6))), 1)
        self.assertEqual(first_ear(ring((1, 1), (0, 6), (0, 0), (6, 0))), 1)
        self.assertEqual(first_ear(ring((0, 0), (2, 0), (4, 0), (1, 1), (0, 4))), 1)
        self.assertEqual(first_ear(ring((2, 0), (4, 0), (4, 4), (0, 0))), 0)
        self.assertEqual(first_ear(ring((0, 0), (2, 0), (4, 0), (0, 4))), 0)

    def test_first_ear_of_what_has_none(self):
        for row in (box_ring(0, 0, 1, 1)[::-1], ring((0, 0), (0, 2), (2, 0)), ()):
            refused_unchanged(self, BadRing, first_ear, row)

    def test_in_three(self):
        three = ring((0, 0), (4, 0), (0, 4))
        for x, y, found in ((1, 1, True), (2, 2, True), (0, 0, True), (4, 0, True), (0, 4, True), (2, 0, True),
                            (0, 3, True), (3, 2, False), (-1, 1, False), (1, -1, False), (5, 0, False), (-1, -1, False),
                            (2, 2 + Fraction(1, 99), False)):
            for k in range(3):
                self.assertIs(in_three(three[k:] + three[:k], spot(x, y)), found)


class Papers(unittest.TestCase):
    ROW = ring((0, 0), (4, 0), (4, 4), (2, 1), (0, 4))

    def test_check_threes(self):
        threes = [ring((0, 0), (2, 1), (0, 4)), ring((0, 0), (4, 0), (2, 1)), ring((4, 0), (4, 4), (2, 1))]
        for row in (self.ROW, list(self.ROW[::-1]), self.ROW[3:] + self.ROW[:3]):
            for there in itertools.permutations(threes):
                self.assertEqual(unchanged(self, check_threes, row, there), 3)
        self.assertEqual(check_threes(self.ROW, [list(three[1:] + three[:1]) for three in threes]), 3)

    def test_bad_ones_are_refused(self):
        one, two, three = (ring((0, 0), (2, 1), (0, 4)), ring((0, 0), (4, 0), (2, 1)), ring((4, 0), (4, 4), (2, 1)))
        for threes in ([one, two, three[::-1]], [one[::-1], two[::-1], three[::-1]], [one, two], [], [one, three],
                       [one, two, three, three], [one, one, two, two, three, three], [one, two, three, two],
                       [one, two, ring((4, 0), (4, 4), (2, 2))], [one, two, ring((4, 0), (5, 4), (2, 1))],
                       [one, ring((0, 0), (4, 0), (0, 4)), three], [one, two, three, ring((0, 4), (2, 1), (4, 4))],
                       [one, two, three[:2]], [one, two, (*three, spot(0, 0))], [(spot(0, 0), spot(0, 0), spot(4, 0))],
                       [one, two, three, ring((0, 0), (2, 1), (4, 2))]):
            refused_unchanged(self, BadPaper, check_threes, self.ROW, threes)

    def test_threes_of_another_ring_are_refused(self):
        box = box_ring(0, 0, 2, 2)
        self.assertRaises(BadPaper, check_threes, box, ears(box_ring(0, 0, 2, 3)))
        self.assertRaises(BadPaper, check_threes, box, ears(ring((0, 0), (2, 0), (2, 2))))
        self.assertRaises(BadPaper, check_threes, ring((0, 0), (2, 0), (2, 2)), ears(box))
        crossed = [ring((0, 0), (2, 0), (2, 2)), ring((0, 0), (2, 0), (0, 2))]
        self.assertRaises(BadPaper, check_threes, box, crossed)

    def test_corners_that_are_not_the_rings_are_refused(self):
        row, heart = box_ring(0, 0, 2, 2), spot(1, 1)
        fan = [(start, end, heart) for start, end in ring_steps(row)]
        self.assertEqual(size(fan), 4)
        self.assertRaises(BadPaper, check_threes, row, fan)
        edge = [(row[0], spot(1, 0), row[3]), (spot(1, 0), row[1], row[2]), (spot(1, 0), row[2], row[3])]
        self.assertRaises(BadPaper, check_threes, row, edge)

    def test_threes_that_turn_right_or_go_straight_are_refused_whatever_else_is_there(self):
        a, b, c, d = row = box_ring(0, 0, 2, 2)
        self.assertRaises(BadPaper, check_threes, row, [(a, b, d), (d, b, a), (a, b, c), (a, c, d)])
        m = spot(1, 0)
        for flat in ((a, m, b), (b, m, a), (m, m, m)):
            for threes in ([flat, (a, b, c), (a, c, d)], [(a, b, c), (a, c, d), flat]):
                self.assertRaises(BadPaper, check_threes, (a, m, b, c, d), threes)

    def test_flat_corners_may_lie_on_a_threes_edge(self):
        row = ring((0, 0), (1, 0), (2, 0), (2, 2), (0, 2))
        long = [ring((0, 0), (2, 0), (2, 2)), ring((0, 0), (2, 2), (0, 2))]
        self.assertEqual(check_threes(row, long), 2)
        self.assertEqual(check_threes(row, [ring((0, 2), (0, 0), (1, 0)), ring((1, 0), (2, 0), (2, 2)),
                                            ring((1, 0), (2, 2), (0, 2))]), 3)
        self.assertRaises(BadPaper, check_threes, row, [ring((0, 0), (1, 0), (2, 2)), ring((0, 0), (2, 2), (0, 2))])

    def test_no_paper_is_taken_but_of_what_is_cut_wholly(self):
        for row in (box_ring(0, 0, 2, 2), self.ROW, ring((0, 0), (1, 0), (2, 0), (2, 2), (0, 2)),
                    ring((0, 0), (3, 1), (4, 4), (1, 3), (1, 2))):
            corners = [three for three in itertools.permutations(row, 3) if three[0] == min(three, key=pair)]
            lefts = [three for three in corners if number(area(three)) > 0]
            whole = abs(number(area(row)))
            taken = 0
            for many in range(5):
                for threes in itertools.combinations(lefts, many):
                    fills = size(threes) == whole and all(self.is_in(row, three) for three in threes)
                    if fills and self.are_apart(threes):
                        taken += 1
                        self.assertEqual(check_threes(row, threes), many)
                    else:
                        self.assertRaises(BadPaper, check_threes, row, threes)
            self.assertGreater(taken, 0)
            for three in corners:
                if number(area(three)) <= 0:
                    self.assertRaises(BadPaper, check_threes, row, [*ears(row), three])

    def is_in(self, row, three):
        """Tell whether a three lies in a ring, by many of its points."""
        a, b, c = [pair(one) for one in three]
        shares = [(Fraction(k, 13), Fraction(m, 13)) for k in range(1, 13) for m in range(1, 13 - k)]
        spots = [[a[n] + (b[n] - a[n]) * s + (c[n] - a[n]) * t for n in range(2)] for s, t in shares]
        return all(where(row, spot(*one)) != "out" for one in spots)

    def are_apart(self, threes):
        """Tell whether no two threes have more than edges in common, by a line of an edge with them on its sides."""
        for one, other in itertools.combinations(threes, 2):
            if not any(all(side(start, end, corner) <= 0 for corner in there)
                       for here, there in ((one, other), (other, one)) for start, end in ring_steps(here)):
                return False
        return True


class Rounds(unittest.TestCase):
    def test_in_round(self):
        three = ring((1, 0), (0, 1), (-1, 0))
        for x, y, found in ((0, 0, 1), (0, -1, 0), (1, 0, 0), (0, 1, 0), (Fraction(3, 5), Fraction(-4, 5), 0),
                            (1, 1, -1), (0, Fraction(-101, 100), -1), (0, Fraction(-99, 100), 1), (5, 0, -1)):
            for k in range(3):
                self.assertEqual(unchanged(self, in_round, three[k:] + three[:k], spot(x, y)), found)

    def test_in_round_by_its_middle(self):
        rand = random.Random(21)
        for _ in range(60):
            spots = [spot(Fraction(rand.randint(-6, 6), rand.randint(1, 3)), rand.randint(-6, 6)) for _ in range(4)]
            if side(*spots[:3]) != 0:
                self.assertEqual(in_round(left_three(*spots[:3]), spots[3]), circle_side(spots[:3], spots[3]))

    def test_left_three(self):
        one, other, third = ring((0, 0), (2, 0), (0, 2))
        self.assertEqual(left_three(one, other, third), (one, other, third))
        self.assertEqual(left_three(other, one, third), (one, other, third))
        tuples_all_through(self, left_three(other, one, third))

    def test_is_round(self):
        box = ears(box_ring(0, 0, 2, 2))
        self.assertIs(unchanged(self, is_round, box, list(box_ring(0, 0, 2, 2))), True)
        self.assertIs(is_round(box, [spot(1, 2 + HALF)]), True)
        self.assertIs(is_round(box, [spot(9, 9), spot(1, 2 + Fraction(1, 3))]), False)
        self.assertIs(is_round((), [spot(0, 0)]), True)
        self.assertIs(is_round(box, []), True)

    def test_flipped_round(self):
        kite = ring((0, 0), (9, -1), (18, 0), (9, 1))
        long = [ring((0, 0), (18, 0), (9, 1)), ring((0, 0), (9, -1), (18, 0))]
        found = unchanged(self, flipped_round, long)
        self.assertEqual(lot(found), lot([(kite[0], kite[1], kite[3]), (kite[1], kite[2], kite[3])]))
        tuples_all_through(self, found)
        self.assertEqual(lot(flipped_round(found)), lot(found))
        self.assertEqual(flipped_round([]), ())
        self.assertEqual(flipped_round([list(long[0])]), (long[0],))

    def test_four_points_on_one_round_are_not_flipped(self):
        box = box_ring(0, 0, 2, 2)
        for threes in ([(box[0], box[1], box[2]), (box[0], box[2], box[3])],
                       [(box[0], box[1], box[3]), (box[1], box[2], box[3])]):
            self.assertEqual(lot(flipped_round(threes)), lot(threes))
        self.assertIs(is_round(roundest(box), box), True)
        self.assertEqual(len(roundest(box)), 2)


class Joined(unittest.TestCase):
    def test_three_points(self):
        for spots in itertools.permutations(ring((0, 0), (2, 0), (0, 2))):
            self.assertEqual(lot(unchanged(self, joined, list(spots))), [ring((0, 0), (2, 0), (0, 2))])

    def test_points_in_a_line_at_the_start(self):
        found = joined(ring((0, 0), (0, 1), (0, 2), (0, 3), (5, 0)))
        self.assertEqual(lot(found), lot([ring((0, 0), (5, 0), (0, 1)), ring((0, 1), (5, 0), (0, 2)),
                                          ring((0, 2), (5, 0), (0, 3))]))
        found = joined(ring((0, 0), (1, 1), (2, 2), (3, 2), (4, 4)))
        self.assertEqual(lot(found), lot([ring((0, 0), (3, 2), (1, 1)), ring((1, 1), (3, 2), (2, 2)),
                                          ring((3, 2), (4, 4), (2, 2))]))

    def test_each_point_is_joined_to_the_edges_it_sees(self):
        found = joined(ring((0, 0), (1, 3), (2, -3), (9, 0)))
        self.assertEqual(lot(found), lot([ring((0, 0), (2, -3), (1, 3)), ring((1, 3), (2, -3), (9, 0))]))
        found = joined(ring((0, 0), (0, 4), (1, 2), (5, 2)))
        self.assertEqual(lot(found), lot([ring((0, 0), (1, 2), (0, 4)), ring((0, 0), (5, 2), (1, 2)),
                                          ring((1, 2), (5, 2), (0, 4))]))
        tuples_all_through(self, found)

    def test_alike_points(self):
        spots = list(ring((0, 0), (2, 0), (0, 2), (3, 3)))
        self.assertEqual(joined(spots + spots[::-1]), joined(spots))

    def test_points_in_one_line_are_refused(self):
        for spots in ((), ring((0, 0)), ring((0, 0), (1, 1)), ring((0, 0), (1, 1), (5, 5), (3, 3)),
                      ring((0, 0), (0, 0), (1, 2), (1, 2)), ring((2, 0), (2, 5), (2, 3))):
            refused_unchanged(self, BadRing, joined, spots)
            refused_unchanged(self, BadRing, roundest, spots)
            refused_unchanged(self, BadRing, outer_size, spots)
        self.assertRaises(BadPart, joined, [spot(0, 0), spot(1, 0), BAD])

    def test_fills_the_hull_without_overlap_and_every_point_is_a_corner(self):
        rand = random.Random(22)
        for _ in range(40):
            spots = [spot(rand.randint(0, 6), Fraction(rand.randint(0, 12), 2)) for _ in range(rand.randint(4, 14))]
            try:
                outer = hull(spots)
            except BadRing:
                continue
            for threes in (joined(spots), roundest(spots)):
                self.assertTrue(all(number(area(three)) > 0 for three in threes))
                self.assertEqual({corner for three in threes for corner in three}, set(spots))
                self.assertEqual(total([area(three) for three in threes]), outer_size(spots))
                # No two overlap, or the map would be refused.
                made = Map({f"{k}": [three] for k, three in enumerate(threes)})
                self.assertEqual((made.whole(), made.gaps(), len(made.faces)), (area(outer), (), len(threes)))
                on = [one for one in set(spots) if where(outer, one) == "on"]
                self.assertEqual(len(threes), 2 * len(set(spots)) - 2 - len(on))
                edges = edges_in(threes)
                self.assertEqual(len(edges), len(set(spots)) + len(threes) - 1)
            self.assertIs(is_round(roundest(spots), spots), True)
            self.assertEqual(lot(flipped_round(roundest(spots))), lot(roundest(spots)))

    def test_roundest_of_points_on_one_round(self):
        spots = ring((5, 0), (4, 3), (3, 4), (0, 5), (-3, 4), (-4, -3), (0, -5), (3, -4))
        found = unchanged(self, roundest, list(spots))
        tuples_all_through(self, found)
        self.assertEqual((len(found), size(found)), (6, number(outer_size(spots))))
        self.assertIs(is_round(found, spots), True)

    def test_tidy_hull(self):
        line = list(ring((0, 0), (1, 0), (2, 0)))
        self.assertEqual(unchanged(self, tidy_hull, line, spot(3, 1)), list(ring((0, 0), (1, 0), (2, 0), (3, 1))))
        self.assertEqual(unchanged(self, tidy_hull, line, spot(3, -1)), list(ring((2, 0), (1, 0), (0, 0), (3, -1))))
        self.assertEqual(tidy_hull(ring((0, 0), (0, 4)), spot(1, 1)), list(ring((0, 4), (0, 0), (1, 1))))
        self.assertIs(tidy_hull(line, spot(3, 1)).__class__, list)

    def test_new_ring(self):
        a, b, c, d = row = list(box_ring(0, 0, 2, 2))
        far = spot(9, 1)
        self.assertEqual(unchanged(self, new_ring, row, [(b, c)], far), [a, b, far, c, d])
        self.assertEqual(new_ring(row, [(b, c), (c, d)], far), [a, b, far, d])
        self.assertEqual(new_ring(row, [(a, b), (b, c), (c, d)], far), [a, far, d])
        self.assertEqual(new_ring(tuple(row), ((d, a),), far), [a, b, c, d, far])
        self.assertIs(new_ring(tuple(row), ((d, a),), far).__class__, list)

    def test_new_ring_where_the_first_corner_goes(self):
        a, b, c, d = row = list(box_ring(0, 0, 2, 2))
        far = spot(-9, -9)
        self.assertEqual(new_ring(row, [(a, b), (d, a)], far), [b, c, d, far])
        self.assertEqual(new_ring(row, [(a, b), (b, c), (d, a)], far), [c, d, far])

    def test_edges_in(self):
        a, b, c, d = box_ring(0, 0, 2, 2)
        found = unchanged(self, edges_in, [(a, b, c), (c, d, a)])
        self.assertEqual(sorted(found), sorted([(a, b), (b, c), (a, c), (d, c), (a, d)]))
        tuples_all_through(self, found)
        self.assertEqual(edges_in(()), ())
        self.assertEqual(edges_in([ring((2, 2), (0, 0), (1, 0))]), edges_in([ring((2, 2), (0, 0), (1, 0))] * 2))
        self.assertIn(step((0, 0), (2, 2)), found)

    def test_outer_size(self):
        self.assertEqual(unchanged(self, outer_size, list(ring((0, 0), (4, 0), (1, 1), (0, 3), (2, 0)))), (6, 1))
        self.assertEqual(outer_size(ring((0, 0), (1, 0), (0, 1), (0, 0))), (1, 2))


if __name__ == "__main__":
    unittest.main()
