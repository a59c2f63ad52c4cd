import random
import unittest
from fractions import Fraction

from borderwright.cells import map_of
from borderwright.errors import BadMap, BadSize, NoSuch
from borderwright.maps import Map, all_sizes, check_whole
from borderwright.nearest import shared_out
from borderwright.simples import (
    check_free, corner_size, corners_of, count_corners, knots, moved_size, simpler, without,
)
from helper import (
    box_ring, keeps_map, map_state, number, part_of, refused_keeps_map, refused_unchanged, ring, spot,
    tuples_all_through, unchanged,
)

HALF = Fraction(1, 2)


def bent(*pairs):
    """Return the map of two regions, a below and b above, with a border from (0, 2) by some points to (6, 2)."""
    line = [(0, 2), *pairs, (6, 2)]
    return Map({"a": [ring((0, 0), (6, 0), *line[::-1])], "b": [ring(*line, (6, 4), (0, 4))]})


def brute_may_go(made, one):
    """Tell whether a corner may go, as the document has it, looked at anew from the map's rings and pieces."""
    if len([piece for piece in made.borders() if one in piece]) != 2:
        return False
    rings = [row for name in made.names() for row in made.rings(name)]
    if any(len(row) == 3 for row in [*rings, *made.gaps()] if one in row):
        return False
    corners = {corner for row in rings for corner in row}
    for row in rings:
        if one in row:
            place = row.index(one)
            three = (row[place - 1], one, row[(place + 1) % len(row)])
            if any(in_closed(three, corner) for corner in corners - set(three)):
                return False
    return True


def in_closed(three, one):
    """Tell whether a point lies within three corners or on them, by how much it turns at each."""
    (ax, ay), (bx, by), (cx, cy) = [(number(x), number(y)) for x, y in three]
    px, py = number(one[0]), number(one[1])
    turns = [(bx - ax) * (py - ay) - (by - ay) * (px - ax), (cx - bx) * (py - by) - (cy - by) * (px - bx),
             (ax - cx) * (py - cy) - (ay - cy) * (px - cx)]
    inside = all(turn >= 0 for turn in turns) or all(turn <= 0 for turn in turns)
    return inside and min(ax, bx, cx) <= px <= max(ax, bx, cx) and min(ay, by, cy) <= py <= max(ay, by, cy)


class Sizes(unittest.TestCase):
    def test_corner_size(self):
        row = ring((0, 0), (4, 0), (4, 3), (1, 1), (0, 3))
        self.assertEqual([number(corner_size(row, place)) for place in range(5)],
                         [6, 6, Fraction(9, 2), 4, Fraction(3, 2)])
        found = unchanged(self, corner_size, list(row[::-1]), 1)
        self.assertEqual(found, (4, 1))
        tuples_all_through(self, found)

    def test_corner_size_is_nought_where_it_goes_straight_on(self):
        self.assertEqual(corner_size(ring((0, 0), (1, 0), (2, 0), (0, 2)), 1), (0, 1))

    def test_corners_of(self):
        made = bent((3, 3))
        found = keeps_map(self, made, corners_of)
        self.assertEqual(list(found.items()), [
            (spot(0, 0), part_of(6)), (spot(6, 0), part_of(6)), (spot(6, 2), part_of(3)), (spot(3, 3), part_of(3)),
            (spot(0, 2), part_of(3))] + [(spot(6, 4), part_of(6)), (spot(0, 4), part_of(6))])
        self.assertIs(found.__class__, dict)

    def test_corners_of_two_rings_have_the_smallest(self):
        # At (2, 2) a's three corners are as great as 2, b's as great as 1/2.
        made = Map({"b": [ring((2, 2), (3, 2), (3, 3), (2, 3))], "a": [box_ring(0, 0, 2, 2)]})
        self.assertEqual(corners_of(made)[spot(2, 2)], part_of(HALF))
        self.assertEqual(list(corners_of(made))[:5], [spot(0, 0), spot(2, 0), spot(2, 2), spot(0, 2), spot(3, 2)])

    def test_corners_of_no_regions(self):
        self.assertEqual(corners_of(Map({})), {})
        self.assertEqual(corners_of(Map({"a": []})), {})

    def test_count_corners(self):
        self.assertEqual(keeps_map(self, bent((3, 3)), count_corners), 10)
        self.assertEqual(count_corners(map_of(["ab"])), 8)
        self.assertEqual(count_corners(map_of(["aaa", "aba", "aaa"])), 12)
        self.assertEqual(count_corners(Map({})), 0)

    def test_moved_size(self):
        one, other = map_of(["aab", "b.."]), map_of(["abb", "bcc"])
        found = moved_size(one, other)
        self.assertEqual(found, (("a", (-1, 1)), ("b", (1, 1))))
        tuples_all_through(self, found)
        self.assertEqual(moved_size(Map({}), one), ())
        halves = Map({"a": [box_ring(0, 0, HALF, HALF)], "b": []})
        self.assertEqual(moved_size(one, halves), (("a", (-7, 4)), ("b", (-2, 1))))

    def test_moved_size_of_a_name_that_is_not_there(self):
        one, other = map_of(["abc"]), map_of(["ab."])
        refused_keeps_map(self, NoSuch, one, lambda made: moved_size(made, other))
        refused_keeps_map(self, NoSuch, Map({}), lambda made: moved_size(one, made))
        self.assertEqual(moved_size(other, one), (("a", (0, 1)), ("b", (0, 1))))


class Knots(unittest.TestCase):
    def test_knots(self):
        made = bent((3, 3))
        found = keeps_map(self, made, knots)
        self.assertEqual(found, (spot(0, 2), spot(6, 2)))
        tuples_all_through(self, found)

    def test_of_four_pieces_each_once_in_order(self):
        self.assertEqual(knots(map_of(["ab", "cd"])), (spot(0, 1), spot(1, 0), spot(1, 1), spot(1, 2), spot(2, 1)))
        self.assertEqual(knots(map_of(["a.", ".a"])), (spot(1, 1),))

    def test_of_a_corner_on_another_ones_edge(self):
        made = Map({"a": [box_ring(0, 0, 2, 4)], "b": [box_ring(2, 1, 1, 1)]})
        self.assertEqual(knots(made), (spot(2, 1), spot(2, 2)))

    def test_of_none(self):
        self.assertEqual(knots(Map({})), ())
        self.assertEqual(knots(map_of(["aaa", "aba", "aaa"])), ())


class Without(unittest.TestCase):
    def test_one_that_may_go_goes_from_both_rings(self):
        made = bent((3, 3))
        found = keeps_map(self, made, without, spot(3, 3))
        self.assertEqual(found.shown(), bent().shown())
        self.assertEqual((found.whole(), found.gaps()), (made.whole(), ()))
        self.assertEqual(moved_size(made, found), (("a", (-3, 1)), ("b", (3, 1))))
        self.assertIs(check_whole(found, box_ring(0, 0, 6, 4)), True)

    def test_the_first_and_the_last_corner_of_a_ring(self):
        made = Map({"a": [ring((0, 0), (2, 0), (3, 1), (2, 2), (0, 2))]})
        self.assertEqual(without(made, spot(0, 0)).rings("a"), (ring((2, 0), (3, 1), (2, 2), (0, 2)),))
        self.assertEqual(without(made, spot(0, 2)).rings("a"), (ring((0, 0), (2, 0), (3, 1), (2, 2)),))

    def test_one_beside_no_other_region(self):
        made = bent()
        found = without(made, spot(0, 0))
        self.assertEqual(found.rings("a"), (ring((6, 0), (6, 2), (0, 2)),))
        self.assertEqual(found.rings("b"), made.rings("b"))
        self.assertEqual((number(found.whole()), found.gaps()), (18, ()))

    def test_one_of_a_hole_and_its_gap(self):
        made = Map({"a": [box_ring(0, 0, 9, 9), box_ring(2, 2, 4, 4)]})
        found = without(made, spot(2, 2))
        self.assertEqual(found.gaps(), (ring((2, 6), (6, 2), (6, 6)),))
        self.assertEqual(number(found.whole()), 81 - 8)

    def test_a_knot_is_refused(self):
        refused_keeps_map(self, BadMap, bent((3, 3)), without, spot(0, 2))
        refused_keeps_map(self, BadMap, map_of(["ab", "cd"]), without, spot(1, 1))
        refused_keeps_map(self, BadMap, map_of(["aa.", "a.a", "aaa"]), without, spot(2, 1))

    def test_cutting_another_corner_off_is_refused(self):
        island = ring((2, 2), (3, 2), (2, 3))
        for within in ({"a": [island]}, {"b": [island]}):
            made = Map({"c": [ring((0, 0), (6, 0), (6, 1), (0, 6)), island], **within})
            refused_keeps_map(self, BadMap, made, without, spot(0, 0))

    def test_another_corner_on_the_line_is_refused(self):
        # The line from (0, 4) to (4, 0) goes through a corner of b, which has nothing else within.
        made = Map({"a": [box_ring(0, 0, 4, 4), ring((2, 2), (3, 2), (3, 3), (2, 3))]})
        refused_keeps_map(self, BadMap, made, without, spot(0, 0))
        free = Map({"a": [box_ring(0, 0, 4, 4), ring((Fraction(21, 10), 2), (3, 2), (3, 3), (2, 3))]})
        found = without(free, spot(0, 0))
        self.assertEqual((number(free.whole()) - number(found.whole()), len(found.gaps())), (8, 1))

    def test_another_corner_on_the_edges_that_go_is_refused(self):
        made = Map({"a": [box_ring(0, 0, 4, 4)], "b": [box_ring(4, 1, 1, 1)]})
        refused_keeps_map(self, BadMap, made, without, spot(4, 0))
        refused_keeps_map(self, BadMap, made, without, spot(4, 4))
        self.assertEqual(number(without(made, spot(0, 0)).area("a")), 8)

    def test_a_ring_of_three_is_refused(self):
        made = Map({"a": [ring((0, 0), (2, 0), (0, 2))]})
        for one in made.rings("a")[0]:
            refused_keeps_map(self, BadMap, made, without, one)
        made = Map({"a": [box_ring(0, 0, 9, 9), ring((2, 2), (5, 2), (2, 5))]})
        refused_keeps_map(self, BadMap, made, without, spot(2, 2))
        self.assertEqual(len(without(made, spot(9, 9)).rings("a")[0]), 3)

    def test_a_ring_of_three_beside_one_of_more_is_refused(self):
        made = Map({"a": [ring((0, 0), (4, 0), (2, 1))], "b": [ring((0, 0), (2, 1), (4, 0), (4, 5), (0, 5))]})
        refused_keeps_map(self, BadMap, made, without, spot(2, 1))

    def test_a_gap_of_three_is_refused(self):
        # The gap (1, 1), (3, 1), (2, 2) has its upper corner in b alone, a ring of seven corners.
        made = Map({"a": [ring((0, 0), (4, 0), (4, 1), (3, 1), (1, 1), (0, 1))],
                    "b": [ring((0, 1), (1, 1), (2, 2), (3, 1), (4, 1), (4, 4), (0, 4))]})
        self.assertEqual(made.gaps(), (ring((1, 1), (3, 1), (2, 2)),))
        refused_keeps_map(self, BadMap, made, without, spot(2, 2))

    def test_one_that_goes_straight_on(self):
        made = Map({"a": [ring((0, 0), (1, 0), (2, 0), (2, 2), (0, 2))]})
        self.assertEqual(without(made, spot(1, 0)).rings("a"), (box_ring(0, 0, 2, 2),))
        made = bent((2, 2), (3, 2))
        refused_keeps_map(self, BadMap, Map({"a": made.rings("a"), "b": bent((3, 2)).rings("b")}), without, spot(3, 2))
        self.assertEqual(without(made, spot(2, 2)).shown(), bent((3, 2)).shown())

    def test_one_that_no_ring_has(self):
        made = bent((3, 3))
        self.assertEqual(without(made, spot(1, 0)).shown(), made.shown())

    def test_the_other_rings_stay_as_they_were(self):
        made = Map({"b": [box_ring(9, 9, 1, 1)[::-1]], "a": [box_ring(0, 0, 2, 2), box_ring(5, 5, 1, 1)[::-1]]})
        found = without(made, spot(2, 2))
        self.assertEqual(found.shown(), (("a", (ring((0, 0), (2, 0), (0, 2)), box_ring(5, 5, 1, 1)[::-1])),
                                         ("b", (box_ring(9, 9, 1, 1)[::-1],))))

    def test_goes_just_where_the_document_has_it(self):
        rand = random.Random(9)
        went = 0
        for _ in range(30):
            made = map_of(["".join(rand.choice("ab..") for _ in range(5)) for _ in range(4)])
            for one in corners_of(made):
                if not brute_may_go(made, one):
                    refused_keeps_map(self, BadMap, made, without, one)
                    continue
                went += 1
                found = without(made, one)
                self.assertNotIn(one, corners_of(found))
                self.assertEqual(len(found.gaps()), len(made.gaps()))
                self.assertEqual(found.names(), made.names())
        self.assertGreater(went, 50)


class Free(unittest.TestCase):
    ROW = ring((0, 0), (4, 0), (4, 4), (0, 4))

    def test_free_ones(self):
        for corners in ([], list(self.ROW), [spot(2, 3)], [spot(5, 1)], [spot(-1, 0)], [spot(3, -1)]):
            self.assertIsNone(unchanged(self, check_free, self.ROW, 1, corners))
        self.assertIsNone(check_free(list(self.ROW), 0, [*self.ROW, spot(4, 2), spot(2, 4)]))

    def test_within_and_on_each_side(self):
        for one in (spot(3, 1), spot(2, 2), spot(1, 0), spot(4, 3), spot(2, 1)):
            refused_unchanged(self, BadMap, check_free, self.ROW, 1, [one])
            refused_unchanged(self, BadMap, check_free, self.ROW[::-1], 2, [*self.ROW, one])
            self.assertIsNone(check_free(self.ROW, 3, [one]) if one not in (spot(2, 2),) else None)

    def test_a_place_at_which_it_turns_the_other_way(self):
        row = ring((0, 0), (2, 1), (4, 0), (4, 4), (0, 4))
        self.assertIsNone(check_free(row, 1, [*row, spot(2, -1), spot(2, 2)]))
        for one in (spot(2, HALF), spot(2, 0), spot(1, HALF)):
            refused_unchanged(self, BadMap, check_free, row, 1, [one])

    def test_a_place_at_which_it_goes_straight_on(self):
        row = ring((0, 0), (2, 0), (4, 0), (4, 4))
        self.assertIsNone(check_free(row, 1, [*row, spot(5, 0), spot(-1, 0), spot(2, 1)]))
        for one in (spot(1, 0), spot(3, 0)):
            refused_unchanged(self, BadMap, check_free, row, 1, [one])

    def test_a_ring_of_three(self):
        for place in range(3):
            refused_unchanged(self, BadMap, check_free, ring((0, 0), (1, 0), (0, 1)), place, [])


class Simpler(unittest.TestCase):
    def test_by_nought_just_flat_corners_go(self):
        made = bent((1, 2), (2, 3), (3, 3), (4, 3))
        found = keeps_map(self, made, simpler, part_of(0))
        self.assertEqual(found.shown(), bent((1, 2), (2, 3), (4, 3)).shown())
        self.assertEqual(found.whole(), made.whole())
        self.assertEqual(simpler(found, part_of(0)).shown(), found.shown())

    def test_no_more_than_told(self):
        made = bent((3, 3))
        self.assertEqual(simpler(made, part_of(3 - HALF)).shown(), made.shown())
        self.assertEqual(simpler(made, part_of(3)).shown(), bent().shown())

    def test_the_least_goes_first(self):
        # (2, 3) is as great as 1, (5, 5) as 4; without the one the other is as great as 15/2.
        made = Map({"a": [ring((0, 0), (9, 0), (9, 2), (5, 5), (2, 3), (0, 2))]})
        sizes = {one: number(size) for one, size in corners_of(made).items()}
        self.assertEqual((sizes[spot(2, 3)], sizes[spot(0, 2)]), (HALF, 2))
        self.assertEqual(simpler(made, part_of(HALF)).rings("a"), (ring((0, 0), (9, 0), (9, 2), (5, 5), (0, 2)),))

    def test_ties_go_in_the_maps_order(self):
        row = ring((0, 0), (4, 0), (5, 2), (4, 4), (0, 4), (-1, 2))
        for place in range(6):
            made = Map({"a": [row[place:] + row[:place]]})
            sizes = corners_of(made)
            self.assertEqual({number(size) for size in sizes.values()}, {2, 4})
            gone = [one for one in made.rings("a")[0] if number(sizes[one]) == 2][0]
            self.assertNotIn(gone, simpler(made, part_of(2)).rings("a")[0])

    def test_ties_go_in_the_order_of_names(self):
        # Without either of the alike corners the other is greater than told.
        lower, upper = (2, 3), (4, 1)
        made = bent(lower, upper)
        self.assertEqual(corners_of(made)[spot(*lower)], corners_of(made)[spot(*upper)])
        size = corners_of(made)[spot(*lower)]
        left = simpler(made, size)
        self.assertNotIn(spot(*upper), corners_of(left))
        other = Map({"b": made.rings("a"), "a": made.rings("b")})
        self.assertNotIn(spot(*lower), corners_of(simpler(other, size)))

    def test_again_and_again(self):
        made = bent((1, 3), (2, 3), (3, 3), (4, 3), (5, 3))
        self.assertEqual(simpler(made, part_of(9)).rings("b")[0][:2], ring((0, 2), (6, 2)))
        self.assertEqual(count_corners(simpler(Map({"a": made.rings("a")}), part_of(99))), 3)

    def test_where_one_may_not_go_the_next_one_does(self):
        made = Map({"a": [ring((0, 0), (1, 0), (1, 1))], "b": [ring((5, 0), (9, 0), (9, 4), (5, 4))]})
        found = simpler(made, part_of(8))
        self.assertEqual((found.rings("a"), len(found.rings("b")[0])), (made.rings("a"), 3))

    def test_below_nought_is_refused(self):
        refused_keeps_map(self, BadSize, bent(), simpler, (-1, 2))

    def test_no_regions(self):
        self.assertEqual(simpler(Map({}), part_of(5)).names(), ())

    def test_nothing_is_left_that_may_go_and_no_gap_comes(self):
        rand = random.Random(10)
        for _ in range(12):
            made = map_of(["".join(rand.choice("ab.") for _ in range(5)) for _ in range(5)])
            most = Fraction(rand.randint(0, 4), 2)
            found = keeps_map(self, made, simpler, part_of(most))
            self.assertEqual((len(found.gaps()), found.names()), (len(made.gaps()), made.names()))
            left = [one for one, size in corners_of(found).items() if number(size) <= most and brute_may_go(found, one)]
            self.assertEqual(left, [])

    def test_a_whole_map_stays_whole(self):
        rand = random.Random(12)
        outline = ring((0, 0), (20, 0), (20, 20), (0, 20))
        for _ in range(5):
            spots = list({spot(rand.randint(1, 19), rand.randint(1, 19)) for _ in range(9)})
            made = shared_out(outline, spots, [f"n{k}" for k in range(len(spots))])
            bends = shared_out(outline, spots[:1], ["x"])
            self.assertIs(check_whole(simpler(made, part_of(0)), outline), True)
            self.assertEqual(simpler(made, part_of(30)).gaps(), ())
            self.assertEqual(count_corners(simpler(bends, part_of(0))), 4)

    def test_is_what_is_told_step_by_step(self):
        rand = random.Random(13)
        for _ in range(8):
            made = map_of(["".join(rand.choice("ab.") for _ in range(4)) for _ in range(4)])
            most = Fraction(rand.randint(1, 3), 2)
            here, going = made, True
            while going:
                sizes = [(number(size), place, one) for place, (one, size) in enumerate(corners_of(here).items())]
                free = [row for row in sorted(sizes) if row[0] <= most and brute_may_go(here, row[2])]
                going = free != []
                if going:
                    here = without(here, free[0][2])
            self.assertEqual(simpler(made, part_of(most)).shown(), here.shown())

    def test_maps_that_are_made_share_nothing_that_can_change(self):
        made = bent((3, 3))
        before = map_state(made)
        without(made, spot(3, 3)).regions.clear()
        simpler(made, part_of(9)).sides.clear()
        self.assertEqual(map_state(made), before)
        self.assertEqual(all_sizes(made), (("a", part_of(15)), ("b", part_of(9))))


if __name__ == "__main__":
    unittest.main()
