import random
import unittest
from fractions import Fraction

from borderwright.cells import map_of
from borderwright.errors import BadMap, BadPart, BadPoint, BadRing, BadSize, NoSuch
from borderwright.faces import face_area, faces_of
from borderwright.maps import Map, check_whole
from borderwright.merges import (
    across, biggest, comes_ahead, cut, filled_gaps, first_of, from_first, in_ring_order, is_tighter, merged,
    outer_steps, rings_round, tidy, tightest, whole_faces,
)
from borderwright.overlays import Overlay, same_map
from borderwright.points import apart, side
from borderwright.rings import clipped, same_ring, way_round, without_flat
from helper import (
    box_ring, keeps_map, map_state, number, pair, part_of, refused_keeps_map, refused_unchanged, ring, ring_steps, spot,
    step, tuples_all_through, turned, unchanged,
)

HALF = Fraction(1, 2)
BAD = ((1, 0), (0, 1))


def face(x, y, wide=1, high=1):
    """Return the face of a box by its lowest corner."""
    return (box_ring(x, y, wide, high), ())


def squares(*rows):
    """Return the faces of the squares of rows, the lowest first, that are not dots."""
    return [face(x, y) for y, row in enumerate(rows) for x, sign in enumerate(row) if sign != "."]


def rows_of_letters(rand, letters):
    """Return some rows of letters."""
    wide, high = rand.randint(1, 5), rand.randint(1, 5)
    return ["".join(rand.choice(letters) for _ in range(wide)) for _ in range(high)]


def plain_gaps(made):
    """Return the gaps of a map, without flat corners, so that those of two maps can be compared."""
    return sorted(turned(without_flat(row)) for row in made.gaps())


def see_rings(case, made, name):
    """See that a region's rings stand as the document has them: ways round, first corners, order, no flat corners."""
    rings = made.rings(name)
    keys = [(pair(row[0]), pair(row[1])) for row in rings]
    case.assertEqual(keys, sorted(keys))
    for row in rings:
        case.assertEqual(row, turned(row))
        for place, here in enumerate(row):
            case.assertNotEqual(side(row[place - 1], here, row[(place + 1) % len(row)]), 0)
        for start, end in ring_steps(row):
            (x, y), (end_x, end_y) = pair(start), pair(end)
            far = abs(end_x - x) + abs(end_y - y)
            aside, up = (y - end_y) / far / 1000, (end_x - x) / far / 1000
            mid_x, mid_y = (x + end_x) / 2, (y + end_y) / 2
            case.assertEqual(made.owner_of(spot(mid_x + aside, mid_y + up)), name)
            case.assertNotEqual(made.owner_of(spot(mid_x - aside, mid_y - up)), name)


class Steps(unittest.TestCase):
    def test_of_one_face(self):
        found = unchanged(self, outer_steps, [face(0, 0)])
        self.assertEqual(sorted(found), sorted(ring_steps(box_ring(0, 0, 1, 1))))
        tuples_all_through(self, found)
        self.assertEqual(outer_steps([]), ())

    def test_of_faces_beside_each_other(self):
        found = outer_steps((face(0, 0), face(1, 0)))
        self.assertEqual(sorted(found), sorted([
            step((0, 0), (1, 0)), step((1, 0), (2, 0)), step((2, 0), (2, 1)), step((2, 1), (1, 1)),
            step((1, 1), (0, 1)), step((0, 1), (0, 0))]))

    def test_of_faces_apart(self):
        found = outer_steps([face(0, 0), face(5, 0)])
        self.assertEqual(sorted(found), sorted(ring_steps(box_ring(0, 0, 1, 1), box_ring(5, 0, 1, 1))))

    def test_of_faces_that_touch_at_a_corner(self):
        self.assertEqual(len(outer_steps([face(0, 0), face(1, 1)])), 8)

    def test_of_holes(self):
        about = (box_ring(0, 0, 3, 3), (box_ring(1, 1, 1, 1)[::-1],))
        self.assertEqual(sorted(outer_steps([about])), sorted(ring_steps(about[0], about[1][0])))
        self.assertEqual(sorted(outer_steps([about, face(1, 1)])), sorted(ring_steps(about[0])))


class Rings(unittest.TestCase):
    def test_of_no_face(self):
        self.assertEqual(rings_round([]), ())

    def test_of_one_face(self):
        found = unchanged(self, rings_round, [(ring((2, 0), (2, 3), (0, 3), (0, 0)), ())])
        self.assertEqual(found, (box_ring(0, 0, 2, 3),))
        tuples_all_through(self, found)

    def test_no_flat_corners(self):
        self.assertEqual(rings_round([(ring((0, 0), (1, 0), (2, 0), (2, 2), (1, 2), (0, 2), (0, 1)), ())]),
                         (box_ring(0, 0, 2, 2),))
        self.assertEqual(rings_round(squares("aaa", "aaa")), (box_ring(0, 0, 3, 2),))

    def test_of_faces_apart_in_order_of_first_corners(self):
        found = rings_round([face(4, 0), face(0, 5), face(0, 1), face(2, 2)])
        self.assertEqual(found, (box_ring(0, 1, 1, 1), box_ring(0, 5, 1, 1), box_ring(2, 2, 1, 1),
                                 box_ring(4, 0, 1, 1)))

    def test_holes_go_round_to_the_right(self):
        about = (box_ring(0, 0, 3, 3), (box_ring(1, 1, 1, 1)[::-1],))
        wanted = (box_ring(0, 0, 3, 3), ring((1, 1), (1, 2), (2, 2), (2, 1)))
        self.assertEqual(rings_round([about]), wanted)
        self.assertEqual(rings_round(squares("aaa", "a.a", "aaa")), wanted)
        self.assertEqual([way_round(row) for row in wanted], [1, -1])

    def test_a_lot_within_a_hole(self):
        found = rings_round(squares("aaaaa", "a...a", "a.a.a", "a...a", "aaaaa"))
        self.assertEqual(found, (box_ring(0, 0, 5, 5), ring((1, 1), (1, 4), (4, 4), (4, 1)), box_ring(2, 2, 1, 1)))

    def test_lots_that_meet_at_a_corner_part_there(self):
        self.assertEqual(rings_round(squares("a.", ".a")), (box_ring(0, 0, 1, 1), box_ring(1, 1, 1, 1)))
        self.assertEqual(rings_round(squares(".a", "a.")), (box_ring(0, 1, 1, 1), box_ring(1, 0, 1, 1)))

    def test_holes_that_meet_at_a_corner_part_there(self):
        self.assertEqual(rings_round(squares("aaaa", "a.aa", "aa.a", "aaaa")), (
            box_ring(0, 0, 4, 4), ring((1, 1), (1, 2), (2, 2), (2, 1)), ring((2, 2), (2, 3), (3, 3), (3, 2))))
        self.assertEqual(rings_round(squares("aaaa", "aa.a", "a.aa", "aaaa")), (
            box_ring(0, 0, 4, 4), ring((1, 2), (1, 3), (2, 3), (2, 2)), ring((2, 1), (2, 2), (3, 2), (3, 1))))

    def test_a_hole_that_comes_to_the_outer_ring_parts_there(self):
        found = rings_round(squares("aa.", "a.a", "aaa"))
        self.assertEqual(found, (ring((0, 0), (2, 0), (2, 1), (3, 1), (3, 3), (0, 3)),
                                 ring((1, 1), (1, 2), (2, 2), (2, 1))))

    def test_alike_first_corners_stand_in_order_of_second_ones(self):
        # Both rings have (0, 1) as their first corner: one goes on to (1, 1), the other to (2, 2).
        about = (ring((0, 1), (3, 0), (4, 5), (0, 6)), (ring((0, 1), (2, 3), (2, 2)),))
        self.assertEqual([row[:2] for row in rings_round([about])],
                         [ring((0, 1), (2, 3)), ring((0, 1), (3, 0))])
        found = rings_round([(ring((0, 0), (3, 1), (3, 2)), ()), (ring((0, 0), (1, 3), (0, 3)), ())])
        self.assertEqual(found, (ring((0, 0), (1, 3), (0, 3)), ring((0, 0), (3, 1), (3, 2))))

    def test_holes_that_meet_twice_are_one_ring_about_a_lot(self):
        found = rings_round(squares("aaaaa", "a..aa", "a.a.a", "aa..a", "aaaaa"))
        self.assertEqual(len(found), 3)
        self.assertEqual([way_round(row) for row in found], [1, -1, 1])
        self.assertEqual(found[2], box_ring(2, 2, 1, 1))

    def test_rings_in_order(self):
        rows = [box_ring(2, 2, 1, 1), ring((0, 0), (3, 1), (3, 2)), ring((0, 0), (1, 3), (0, 3)), box_ring(1, 9, 1, 1)]
        found = unchanged(self, in_ring_order, rows)
        self.assertEqual(found, [rows[2], rows[1], rows[3], rows[0]])
        self.assertIs(found.__class__, list)
        self.assertEqual(in_ring_order(()), [])

    def test_comes_ahead(self):
        one, other = ring((0, 0), (3, 1), (3, 2)), ring((0, 0), (1, 3), (0, 3))
        self.assertIs(comes_ahead(other, one), True)
        self.assertIs(comes_ahead(one, other), False)
        self.assertIs(comes_ahead(one, one), False)
        self.assertIs(comes_ahead(one, box_ring(0, 1, 1, 1)), True)
        self.assertIs(comes_ahead(box_ring(0, 1, 1, 1), one), False)
        self.assertIs(comes_ahead(ring((0, 0), (1, 1), (0, 5)), ring((0, 0), (1, 1), (0, 3))), False)

    def test_first_of(self):
        self.assertEqual(unchanged(self, first_of, [spot(2, 0), spot(1, 5), spot(1, HALF)]), spot(1, HALF))
        self.assertEqual(first_of((spot(2, 0),)), spot(2, 0))

    def test_from_first(self):
        row = ring((2, 0), (2, 2), (0, 2), (0, 0))
        self.assertEqual(from_first(row), box_ring(0, 0, 2, 2))
        self.assertEqual(from_first(row[::-1]), ring((0, 0), (0, 2), (2, 2), (2, 0)))
        found = unchanged(self, from_first, list(row))
        self.assertEqual(found, box_ring(0, 0, 2, 2))
        tuples_all_through(self, found)


class Tight(unittest.TestCase):
    # From straight right on, round to the left.
    ROUND = [(1, 0), (2, 1), (1, 1), (1, 2), (0, 1), (-1, 2), (-1, 1), (-2, 1), (-1, 0), (-2, -1), (-1, -1), (-1, -2),
             (0, -1), (1, -2), (1, -1), (2, -1)]

    def test_all_round(self):
        for place, back in enumerate(self.ROUND):
            right = [self.ROUND[place - k] for k in range(1, 16)]
            for first, one in enumerate(right):
                for second, other in enumerate(right):
                    self.assertIs(is_tighter(spot(*back), spot(*one), spot(*other)), first < second)
            for many in range(1, 16):
                ends = [spot(x + 5, y + 7) for x, y in right[-many:]]
                for row in (ends, ends[::-1]):
                    self.assertEqual(tightest(spot(back[0] + 5, back[1] + 7), spot(5, 7), row), ends[0])

    def test_how_long_steps_are_is_nothing(self):
        self.assertIs(is_tighter(spot(-1, 0), spot(0, 9), spot(1, 0)), True)
        self.assertIs(is_tighter(spot(-9, 0), spot(9, 9), spot(0, 1)), False)
        self.assertIs(is_tighter(spot(-1, 0), spot(0, 1), spot(0, 5)), False)

    def test_the_way_back_comes_last(self):
        self.assertIs(is_tighter(spot(-1, 0), spot(-2, 0), spot(-1, -1)), False)
        self.assertIs(is_tighter(spot(-1, 0), spot(-1, -1), spot(-2, 0)), True)
        self.assertEqual(tightest(spot(0, 0), spot(1, 0), [spot(0, 0), spot(1, -1)]), spot(1, -1))

    def test_at_a_start(self):
        ends = [spot(3, 3), spot(-1, 0), spot(0, 1)]
        self.assertEqual(unchanged(self, lambda row: tightest(None, spot(0, 0), row), ends), spot(3, 3))

    def test_a_step_to_nowhere_is_refused(self):
        for three in ((spot(0, 0), spot(1, 0), spot(0, 1)), (spot(1, 0), spot(0, 0), spot(0, 1)),
                      (spot(1, 0), spot(0, 1), spot(0, 0))):
            refused_unchanged(self, BadPoint, is_tighter, *three)
        refused_unchanged(self, BadPoint, tightest, spot(0, 0), spot(1, 0), [spot(2, 0), spot(1, 0)])
        refused_unchanged(self, BadPart, tightest, BAD, spot(1, 0), [spot(2, 0), spot(3, 3)])


class Merged(unittest.TestCase):
    def test_two_neighbours(self):
        made = map_of(["abc"])
        found = keeps_map(self, made, merged, ["a", "b"], "d")
        self.assertEqual(found.shown(), (("c", (box_ring(2, 0, 1, 1),)), ("d", (box_ring(0, 0, 2, 1),))))
        self.assertEqual(found.whole(), made.whole())

    def test_regions_apart(self):
        found = merged(map_of(["abc"]), ("c", "a"), "d")
        self.assertEqual(found.rings("d"), (box_ring(0, 0, 1, 1), box_ring(2, 0, 1, 1)))
        self.assertEqual(found.gaps(), ())

    def test_all(self):
        found = merged(map_of(["abc", "cba"]), ["a", "b", "c"], "x")
        self.assertEqual(found.shown(), (("x", (box_ring(0, 0, 3, 2),)),))

    def test_one_and_names_twice(self):
        made = map_of(["ab"])
        self.assertEqual(merged(made, ["a"], "c").names(), ("b", "c"))
        self.assertEqual(merged(made, ["a", "a", "b"], "c").names(), ("c",))

    def test_none_are_refused(self):
        refused_keeps_map(self, BadMap, map_of(["abc"]), merged, [], "d")
        refused_keeps_map(self, BadMap, map_of(["abc"]), merged, (), "a")

    def test_by_a_name_that_is_one_of_them(self):
        self.assertEqual(merged(map_of(["abc"]), ["a", "b"], "b").shown(),
                         (("b", (box_ring(0, 0, 2, 1),)), ("c", (box_ring(2, 0, 1, 1),))))

    def test_a_name_that_stays_is_refused(self):
        refused_keeps_map(self, BadMap, map_of(["abc"]), merged, ["a", "b"], "c")

    def test_a_name_that_is_not_there_is_refused(self):
        refused_keeps_map(self, BadSize, map_of(["abc"]), merged, ["a", "d"], "e")
        refused_keeps_map(self, BadSize, map_of(["abc"]), merged, ["a", "d"], "c")

    def test_the_other_regions_stay_as_they_were(self):
        other = ring((3, 1), (3, 0), (2, 0), (2, HALF), (2, 1))
        made = Map({"a": [box_ring(0, 0, 1, 1)], "b": [box_ring(1, 0, 1, 1)], "c": [other]})
        self.assertEqual(merged(made, ["a", "b"], "d").rings("c"), (other,))

    def test_a_hole_and_what_lies_in_it(self):
        made = Map({"a": [box_ring(0, 0, 3, 3), box_ring(1, 1, 1, 1)], "b": [box_ring(1, 1, 1, 1)[::-1]]})
        self.assertEqual(merged(made, ["a", "b"], "c").shown(), (("c", (box_ring(0, 0, 3, 3),)),))
        self.assertEqual(merged(made, ["a"], "a").rings("a"),
                         (box_ring(0, 0, 3, 3), ring((1, 1), (1, 2), (2, 2), (2, 1))))

    def test_regions_about_a_gap(self):
        found = merged(map_of(["aab", "a.b", "bbb"]), ["a", "b"], "c")
        self.assertEqual(found.rings("c"), (box_ring(0, 0, 3, 3), ring((1, 1), (1, 2), (2, 2), (2, 1))))
        self.assertEqual(found.gaps(), (box_ring(1, 1, 1, 1),))

    def test_a_region_of_no_rings(self):
        made = Map({"a": [], "b": [box_ring(0, 0, 1, 1)]})
        self.assertEqual(merged(made, ["a"], "c").shown(), (("b", (box_ring(0, 0, 1, 1),)), ("c", ())))

    def test_is_the_map_of_the_letters_put_together(self):
        rand = random.Random(3)
        for _ in range(60):
            rows = rows_of_letters(rand, rand.choice(["abc", "abc.", "ab..", "abcd."]))
            made = map_of(rows)
            mine = [name for name in made.names() if rand.random() < HALF]
            if mine == []:
                continue
            found = merged(made, mine, "z")
            letters = ["".join("z" if sign in mine else sign for sign in row) for row in rows]
            self.assertEqual(found.shown(), map_of(letters).shown())
            self.assertEqual((found.whole(), plain_gaps(found)), (made.whole(), plain_gaps(made)))
            see_rings(self, found, "z")


class Cut(unittest.TestCase):
    def test_through(self):
        made = map_of(["ab"])
        found = keeps_map(self, made, cut, "a", spot(HALF, 0), spot(HALF, 5), "l", "r")
        self.assertEqual(found.shown(), (
            ("b", (box_ring(1, 0, 1, 1),)), ("l", (box_ring(0, 0, HALF, 1),)), ("r", (box_ring(HALF, 0, HALF, 1),))))
        self.assertEqual(found.whole(), made.whole())
        self.assertIs(check_whole(found, box_ring(0, 0, 2, 1)), True)

    def test_left_and_right(self):
        for start, end, left, right in ((spot(0, HALF), spot(1, HALF), (0, HALF), (0, 0)),
                                        (spot(1, HALF), spot(0, HALF), (0, 0), (0, HALF)),
                                        (spot(HALF, 7), spot(HALF, 6), (HALF, 0), (0, 0))):
            found = cut(map_of(["a"]), "a", start, end, "l", "r")
            self.assertEqual((found.rings("l")[0][0], found.rings("r")[0][0]), (spot(*left), spot(*right)))

    def test_the_line_may_be_told_anywhere_along_it(self):
        wanted = cut(map_of(["aa"]), "a", spot(0, 0), spot(2, 1), "l", "r").shown()
        for start, end in ((spot(20, 10), spot(40, 20)), (spot(-5, Fraction(-5, 2)), spot(-4, -2)),
                           (spot(HALF, Fraction(1, 4)), spot(1, HALF))):
            self.assertEqual(cut(map_of(["aa"]), "a", start, end, "l", "r").shown(), wanted)

    def test_through_corners(self):
        found = cut(map_of(["a"]), "a", spot(0, 0), spot(1, 1), "l", "r")
        self.assertEqual(found.rings("l"), (ring((0, 0), (1, 1), (0, 1)),))
        self.assertEqual(found.rings("r"), (ring((0, 0), (1, 0), (1, 1)),))

    def test_beside_along_an_edge_or_at_a_corner_is_refused(self):
        made = map_of(["ab"])
        for start, end in ((spot(0, 2), spot(1, 2)), (spot(0, 1), spot(1, 1)), (spot(1, 0), spot(1, 9)),
                           (spot(0, 1), spot(1, 2)), (spot(0, 0), spot(1, -1)), (spot(5, 5), spot(4, 7))):
            refused_keeps_map(self, BadMap, made, cut, "a", start, end, "l", "r")
            refused_keeps_map(self, BadMap, made, cut, "a", end, start, "l", "r")

    def test_along_an_edge_that_does_not_go_all_through(self):
        found = cut(map_of(["aa", "a."]), "a", spot(0, 1), spot(1, 1), "l", "r")
        self.assertEqual(found.shown(), (("l", (box_ring(0, 1, 1, 1),)), ("r", (box_ring(0, 0, 2, 1),))))

    def test_a_region_of_several_rings(self):
        made = map_of(["a.a", "...", "a.a"])
        found = cut(made, "a", spot(0, 1), spot(1, 1), "l", "r")
        self.assertEqual(found.rings("r"), (box_ring(0, 0, 1, 1), box_ring(2, 0, 1, 1)))
        self.assertEqual(found.rings("l"), (box_ring(0, 2, 1, 1), box_ring(2, 2, 1, 1)))
        found = cut(made, "a", spot(0, HALF), spot(1, HALF), "l", "r")
        self.assertEqual((len(found.rings("l")), len(found.rings("r"))), (4, 2))
        self.assertEqual((found.area("l"), found.area("r")), ((3, 1), (1, 1)))

    def test_a_region_with_a_hole(self):
        made = map_of(["aaa", "aba", "aaa"])
        found = cut(made, "a", spot(0, 1 + HALF), spot(1, 1 + HALF), "l", "r")
        self.assertEqual(found.rings("r"), (
            ring((0, 0), (3, 0), (3, 1 + HALF), (2, 1 + HALF), (2, 1), (1, 1), (1, 1 + HALF), (0, 1 + HALF)),))
        self.assertEqual(found.rings("b"), (box_ring(1, 1, 1, 1),))
        self.assertIs(check_whole(found, box_ring(0, 0, 3, 3)), True)
        found = cut(made, "a", spot(HALF, 0), spot(HALF, 1), "l", "r")
        self.assertEqual(found.rings("r"), (box_ring(HALF, 0, 2 + HALF, 3), ring((1, 1), (1, 2), (2, 2), (2, 1))))
        self.assertEqual(cut(map_of(["aaa", "a.a", "aaa"]), "a", spot(0, HALF), spot(1, HALF), "l", "r").gaps(),
                         (box_ring(1, 1, 1, 1),))

    def test_a_region_within_another_ones_gap(self):
        made = Map({"a": [box_ring(0, 0, 9, 9), box_ring(2, 2, 5, 5), box_ring(3, 3, 2, 2)]})
        found = cut(made, "a", spot(4, 0), spot(4, 1), "l", "r")
        self.assertEqual((found.area("l"), found.area("r")), ((28, 1), (32, 1)))
        self.assertEqual((len(found.gaps()), found.whole()), (1, made.whole()))

    def test_names(self):
        made = map_of(["ab"])
        line = (spot(0, HALF), spot(1, HALF))
        self.assertEqual(cut(made, "a", *line, "a", "c").names(), ("a", "b", "c"))
        self.assertEqual(cut(made, "a", *line, "c", "a").names(), ("a", "b", "c"))
        for left, right in (("b", "c"), ("c", "b"), ("c", "c"), ("a", "a"), ("b", "b")):
            refused_keeps_map(self, BadMap, made, cut, "a", *line, left, right)

    def test_a_line_to_nowhere_is_refused(self):
        refused_keeps_map(self, BadPoint, map_of(["ab"]), cut, "a", spot(0, 0), spot(0, 0), "l", "r")

    def test_a_name_that_is_not_there_is_refused(self):
        refused_keeps_map(self, NoSuch, map_of(["ab"]), cut, "c", spot(0, HALF), spot(1, HALF), "l", "r")

    def test_a_region_of_no_rings_is_not_cut(self):
        refused_keeps_map(self, BadMap, Map({"a": []}), cut, "a", spot(0, 0), spot(1, 0), "l", "r")

    def test_bad_parts_are_refused(self):
        refused_keeps_map(self, BadPart, map_of(["ab"]), cut, "a", BAD, spot(1, 0), "l", "r")

    def test_rings_of_another_region_that_cover_nothing_are_no_border(self):
        made = Map({"a": [box_ring(0, 0, 4, 4)], "b": [box_ring(1, 1, 2, 2), box_ring(1, 1, 2, 2)]})
        found = cut(made, "a", spot(0, 2), spot(1, 2), "l", "r")
        self.assertEqual((found.area("l"), found.area("r"), found.area("b")), ((8, 1), (8, 1), (0, 1)))

    def test_nothing_is_lost_and_put_together_again_it_is_as_before(self):
        rand = random.Random(4)
        done = 0
        for _ in range(60):
            made = map_of(rows_of_letters(rand, "ab.a"))
            for name in made.names():
                start, end = [spot(Fraction(rand.randint(-2, 12), 2), Fraction(rand.randint(-2, 12), 2))
                              for _ in range(2)]
                if start == end:
                    continue
                sides = {side(start, end, one) for row in made.rings(name) for one in row}
                if not {1, -1} <= sides:
                    refused_keeps_map(self, BadMap, made, cut, name, start, end, "l", "r")
                    continue
                found = cut(made, name, start, end, "l", "r")
                done += 1
                self.assertEqual(number(found.area("l")) + number(found.area("r")), number(made.area(name)))
                self.assertEqual((found.whole(), plain_gaps(found)), (made.whole(), plain_gaps(made)))
                for mine, way in (("l", 1), ("r", -1)):
                    see_rings(self, found, mine)
                    self.assertTrue(all(side(start, end, one) * way >= 0 for row in found.rings(mine) for one in row))
                self.assertEqual(merged(found, ["l", "r"], name).shown(), made.shown())
                rest = [other for other in made.names() if other != name]
                self.assertEqual([found.rings(other) for other in rest], [made.rings(other) for other in rest])
        self.assertGreater(done, 20)

    def test_of_a_bulging_region_it_is_what_is_clipped(self):
        shape = ring((0, 0), (5, 1), (7, 4), (3, 6), (Fraction(1, 3), 4))
        for start, end in ((spot(0, 1), spot(7, Fraction(5, 3))), (spot(3, 0), spot(3, 1)), (spot(6, 6), spot(5, 1))):
            found = cut(Map({"a": [shape]}), "a", start, end, "l", "r")
            self.assertTrue(same_ring(found.rings("l")[0], clipped(shape, start, end)))
            self.assertTrue(same_ring(found.rings("r")[0], clipped(shape, end, start)))


class Loose(unittest.TestCase):
    def test_tidy(self):
        row = ring((0, 0), (2, 0), (2, 2), (0, 2))
        self.assertEqual(tidy(row), row)
        tuples_all_through(self, unchanged(self, tidy, list(row)))

    def test_tidy_of_loose_ends_anywhere(self):
        a, b, c, d, e, f = ring((0, 0), (4, 0), (4, 4), (0, 4), (1, 1), (2, 1))
        for row in ([a, b, e, b, c, d], [a, b, e, f, e, b, c, d], [a, e, a, b, c, d], [a, b, c, d, e, d],
                    [a, e, f, e, a, b, f, b, c, d]):
            for place in range(len(row)):
                found = tidy(row[place:] + row[:place])
                self.assertEqual(turned(found), turned((a, b, c, d)))

    def test_tidy_keeps_the_first_corner_where_that_stays(self):
        a, b, c, d, e = ring((0, 0), (4, 0), (4, 4), (0, 4), (1, 1))
        for row in ([a, b, c, d, a, e], [a, b, c, e, c, d], [a, e, a, b, c, d]):
            self.assertEqual(tidy(row), (a, b, c, d))
        self.assertEqual(tidy([e, a, b, c, d, a]), (a, b, c, d))

    def test_tidy_of_what_has_nothing_else(self):
        a, b, c, d = ring((0, 0), (4, 0), (4, 4), (0, 4))
        for row in ([], [a], [a, b], [a, b, c, b], [b, a, b, c], [a, b, c, d, c, b], [c, d, c, b, a, b]):
            self.assertEqual(tidy(row), ())

    def test_tidy_keeps_corners_that_a_round_comes_to_twice(self):
        row = ring((0, 0), (1, 0), (1, 1), (2, 1), (2, 2), (1, 2), (1, 1), (0, 1))
        self.assertEqual(tidy(row), row)

    def test_whole_faces(self):
        faces = faces_of(ring_steps(box_ring(0, 0, 9, 9), box_ring(1, 1, 1, 1))
                         + [step((0, 9), (5, 5)), step((6, 6), (7, 7)), step((2, 2), (3, 3))])
        found = unchanged(self, whole_faces, faces)
        self.assertIs(found.__class__, list)
        big, = [one for one in found if one[1] != ()]
        small, = [one for one in found if one[1] == ()]
        self.assertEqual((turned(big[0]), turned(small[0])), (box_ring(0, 0, 9, 9), box_ring(1, 1, 1, 1)))
        self.assertEqual([turned(hole) for hole in big[1]], [ring((1, 1), (1, 2), (2, 2), (2, 1))])
        for one in found:
            tuples_all_through(self, one)

    def test_whole_faces_leave_out_what_is_nothing_but_loose_ends(self):
        self.assertEqual(whole_faces([]), [])
        self.assertEqual(whole_faces([(ring((0, 0), (1, 0)), ()), face(0, 0)]), [face(0, 0)])

    def test_whole_faces_as_they_stand(self):
        faces = (face(0, 0), (box_ring(3, 3, 9, 9), (box_ring(4, 4, 1, 1)[::-1],)))
        self.assertEqual(whole_faces(faces), list(faces))


class Across(unittest.TestCase):
    def test_goes_past_all_points_along_the_line(self):
        rand = random.Random(5)
        for _ in range(40):
            start, end = spot(rand.randint(-5, 5), rand.randint(-5, 5)), spot(rand.randint(6, 9), rand.randint(-5, 5))
            if rand.random() < HALF:
                start, end = end, start
            spots = [spot(Fraction(rand.randint(-50, 50), 7), rand.randint(-50, 50)) for _ in range(rand.randint(0, 5))]
            found = unchanged(self, across, start, end, spots)
            tuples_all_through(self, found)
            low, high = found
            self.assertEqual((side(start, end, low), side(start, end, high)), (0, 0))
            (x, y), (left, up) = pair(apart(start, end)), pair(apart(low, high))
            self.assertGreater(x * left + y * up, 0)
            for one in (start, end, *spots):
                shares = [sum(k * n for k, n in zip((x, y), pair(apart(start, here)))) for here in (low, one, high)]
                self.assertTrue(shares[0] < shares[1] < shares[2])

    def test_bad_ones_are_refused(self):
        refused_unchanged(self, BadPart, across, spot(1, 1), spot(1, 1), [spot(0, 0)])
        refused_unchanged(self, BadPart, across, spot(1, 1), spot(2, 1), [BAD])


class Biggest(unittest.TestCase):
    def test_biggest(self):
        self.assertEqual(keeps_map(self, map_of(["abb"]), biggest), "b")
        self.assertEqual(biggest(map_of(["bbaac"])), "a")
        inner = box_ring(1, 1, 7, 7)
        self.assertEqual(biggest(Map({"x": [box_ring(0, 0, 9, 9), inner], "y": [inner]})), "y")

    def test_regions_of_nothing(self):
        self.assertEqual(biggest(Map({"b": [], "a": []})), "a")
        self.assertEqual(biggest(Map({"a": [], "b": [box_ring(0, 0, 1, 1)]})), "b")

    def test_none_is_refused(self):
        refused_keeps_map(self, BadRing, Map({}), biggest)


class Filled(unittest.TestCase):
    def test_no_gaps(self):
        made = map_of(["ab", "ba"])
        found = keeps_map(self, made, filled_gaps)
        self.assertEqual(found.shown(), made.shown())
        self.assertEqual(filled_gaps(Map({})).names(), ())

    def test_what_is_open_is_no_gap(self):
        made = map_of(["aba", "a.b", "a.a"])
        self.assertTrue(same_map(made, filled_gaps(made)))

    def test_one_gap(self):
        made = map_of(["aab", "a.b", "aab"])
        found = filled_gaps(made)
        self.assertEqual(found.shown(), map_of(["aab", "aab", "aab"]).shown())
        self.assertEqual(number(found.whole()), number(made.whole()) + 1)

    def test_several_gaps(self):
        found = filled_gaps(map_of(["aabbb", "a.b.b", "aabbb"]))
        self.assertEqual(found.shown(), map_of(["aabbb", "aabbb", "aabbb"]).shown())

    def test_ties_go_to_the_first_name(self):
        made = map_of(["baa", "b.a", "bba"])
        self.assertEqual(made.borders()[step((1, 1), (1, 2))], ("b", None))
        self.assertEqual(filled_gaps(made).shown(), map_of(["baa", "baa", "bba"]).shown())

    def test_pieces_count_not_how_long_they_are(self):
        # The gap has three short pieces with b and, of three sides, one long piece each with a.
        made = Map({"a": [box_ring(0, 0, 9, 9), box_ring(2, 2, 5, 5)],
                    "b": [ring((2, 2), (7, 2), (7, 4), (5, 3), (4, 4), (3, 3), (2, 4))]})
        self.assertEqual(filled_gaps(made).area("b"), part_of(25))

    def test_pieces_go_from_knot_to_knot_and_corner_to_corner(self):
        # b stands at two places of the gap's right side, c at one, and a has its other three sides.
        made = Map({"a": [ring((0, 0), (4, 0), (4, 1), (1, 1), (1, 4), (4, 4), (4, 5), (0, 5))],
                    "b": [box_ring(4, 0, 1, 2), box_ring(4, 3, 1, 2)], "c": [box_ring(4, 2, 1, 1)]})
        found = filled_gaps(made)
        self.assertEqual((found.area("a"), found.area("b"), found.area("c")), ((20, 1), (4, 1), (1, 1)))

    def test_a_gap_of_islands(self):
        made = Map({"sea": [box_ring(0, 0, 9, 9), box_ring(1, 1, 7, 7)], "b": [box_ring(2, 2, 1, 1)],
                    "a": [box_ring(4, 4, 1, 1)]})
        found = filled_gaps(made)
        self.assertEqual(found.rings("a"), (ring((1, 1), (8, 1), (8, 8), (1, 8)), ring((2, 2), (2, 3), (3, 3), (3, 2))))
        self.assertEqual((found.area("a"), found.area("b"), found.area("sea")), ((48, 1), (1, 1), (32, 1)))
        more = Map({"sea": [box_ring(0, 0, 9, 9), box_ring(1, 1, 7, 7)],
                    "b": [box_ring(2, 2, 1, 1), box_ring(6, 6, 1, 1)], "a": [box_ring(4, 4, 1, 1)]})
        self.assertEqual(filled_gaps(more).area("b"), (48, 1))

    def test_a_gap_with_no_region_beside_it_stays(self):
        made = Map({"a": [box_ring(0, 0, 1, 1), box_ring(0, 0, 1, 1)]})
        self.assertEqual((filled_gaps(made).whole(), filled_gaps(made).names()), ((0, 1), ("a",)))

    def test_all_gaps_go_and_nothing_else_changes(self):
        rand = random.Random(6)
        for _ in range(40):
            made = map_of(["".join(rand.choice("ab.") for _ in range(6)) for _ in range(6)])
            found = keeps_map(self, made, filled_gaps)
            self.assertEqual(found.gaps(), ())
            areas = Overlay(made, found).areas()
            self.assertEqual([one for one in areas if one[0] not in (one[1], None)], [])
            more = sum(number(face_area(one)) for one, owner in zip(made.faces, made.owners) if owner is None)
            self.assertEqual(sum(number(size) for one, size in areas.items() if one[0] is None), more)
            self.assertEqual(number(found.whole()), number(made.whole()) + more)
            for name in found.names():
                see_rings(self, found, name)


class Kept(unittest.TestCase):
    def test_maps_that_are_made_share_nothing_that_can_change(self):
        made = map_of(["ab.", "a.b", "abb"])
        before = map_state(made)
        for found in (merged(made, ["a"], "c"), cut(made, "a", spot(0, HALF), spot(1, HALF), "l", "r"),
                      filled_gaps(made)):
            found.regions.clear()
            found.owners.clear()
            found.sides.clear()
        self.assertEqual(map_state(made), before)


if __name__ == "__main__":
    unittest.main()
