import random
import unittest
from fractions import Fraction

from borderwright.errors import BadPart, BadPoint, BadRing
from borderwright.faces import (
    comes_first, counts_of, each_step, edges_of, face_area, faces_of, in_corner, in_face, in_rows, inner_point,
    lies_in, outline, pieces_of, rounds_of, side_far, turned_from,
)
from borderwright.points import between, is_ahead
from borderwright.rings import area, box
from helper import (
    box_ring, number, pair, part_of, plain_face, plain_faces, refused_unchanged, ring, ring_steps, spot, step, steps,
    turned, unchanged,
)

SQUARE = box_ring(0, 0, 8, 8)
INNER = box_ring(2, 2, 4, 4)
INMOST = box_ring(3, 3, 1, 1)
CROSS = steps((0, 0, 2, 2), (0, 2, 2, 0))
NOWHERE = step((1, 1), (1, 1))
BAD = ((1, 0), (0, 1))


def some_steps(many, seed, most=6):
    """Return steps between points of few places, so that they touch, cross and lie on each other."""
    rand = random.Random(seed)
    found = []
    while len(found) < many:
        row = [rand.randint(0, most) for _ in range(4)]
        if row[:2] != row[2:]:
            found.append(step(row[:2], row[2:]))
    return found


class Pieces(unittest.TestCase):
    def test_each_step(self):
        found = unchanged(self, each_step, steps((2, 2, 0, 0), (0, 0, 2, 2), (0, 0, 1, 5), (-1, 0, -1, -3)))
        self.assertEqual(found, steps((-1, -3, -1, 0), (0, 0, 1, 5), (0, 0, 2, 2)))
        self.assertIs(found.__class__, list)
        self.assertEqual(each_step(()), [])

    def test_a_step_to_nowhere_is_refused(self):
        for work in (each_step, pieces_of, faces_of, counts_of):
            with self.subTest(work.__name__):
                refused_unchanged(self, BadPoint, work, [NOWHERE])
                refused_unchanged(self, BadPoint, work, CROSS + [NOWHERE])
        refused_unchanged(self, BadPoint, rounds_of, [NOWHERE])
        refused_unchanged(self, BadPoint, turned_from, spot(1, 1), [spot(2, 2), spot(1, 1)])

    def test_steps_that_cross(self):
        self.assertEqual(pieces_of(CROSS), tuple(steps((0, 0, 1, 1), (0, 2, 1, 1), (1, 1, 2, 0), (1, 1, 2, 2))))

    def test_steps_that_cross_at_parts(self):
        found = pieces_of(steps((0, 0, 1, 1), (0, 1, 2, 0)))
        here = (Fraction(2, 3), Fraction(2, 3))
        self.assertEqual(found, (step((0, 0), here), step((0, 1), here), step(here, (1, 1)), step(here, (2, 0))))

    def test_steps_that_touch(self):
        self.assertEqual(pieces_of(steps((0, 0, 4, 0), (1, 0, 1, 3))),
                         tuple(steps((0, 0, 1, 0), (1, 0, 1, 3), (1, 0, 4, 0))))
        self.assertEqual(pieces_of(steps((0, 0, 1, 0), (2, 0, 1, 0))), tuple(steps((0, 0, 1, 0), (1, 0, 2, 0))))

    def test_steps_that_lie_on_each_other(self):
        self.assertEqual(pieces_of(steps((0, 0, 3, 3), (5, 5, 1, 1))),
                         tuple(steps((0, 0, 1, 1), (1, 1, 3, 3), (3, 3, 5, 5))))
        self.assertEqual(pieces_of(steps((0, 0, 0, 3), (0, 3, 0, 0))), tuple(steps((0, 0, 0, 3))))
        self.assertEqual(pieces_of(steps((0, 0, 9, 0), (6, 0, 3, 0), (4, -1, 4, 1))),
                         tuple(steps((0, 0, 3, 0), (3, 0, 4, 0), (4, -1, 4, 0), (4, 0, 4, 1), (4, 0, 6, 0),
                                     (6, 0, 9, 0))))

    def test_none(self):
        self.assertEqual(pieces_of([]), ())

    def test_pieces_cover_what_the_steps_do_and_meet_at_ends_alone(self):
        for seed in range(25):
            rows = some_steps(9, seed)
            pieces = unchanged(self, pieces_of, rows)
            self.assertEqual(list(pieces), sorted(set(pieces), key=lambda one: (pair(one[0]), pair(one[1]))))
            self.assertTrue(all(is_ahead(start, end) for start, end in pieces))
            ends = {one for piece in pieces for one in piece}
            for start, end in pieces:
                self.assertEqual([one for one in ends if between(start, end, one) and one not in (start, end)], [])
            for start, end in rows:
                mine = [piece for piece in pieces if all(between(start, end, one) for one in piece)]
                wide = sum(abs(pair(other)[0] - pair(one)[0]) for one, other in mine)
                high = sum(abs(pair(other)[1] - pair(one)[1]) for one, other in mine)
                self.assertEqual(wide, abs(pair(end)[0] - pair(start)[0]))
                self.assertEqual(high, abs(pair(end)[1] - pair(start)[1]))

    def test_in_rows(self):
        rows = steps((1, 0, 2, 0), (0, 5, 9, 9), (1, 0, 1, 1), (0, 5, 9, 9))
        found = unchanged(self, in_rows, rows)
        self.assertEqual(found, steps((0, 5, 9, 9), (0, 5, 9, 9), (1, 0, 1, 1), (1, 0, 2, 0)))
        self.assertIs(in_rows(tuple(rows[:1])).__class__, list)
        self.assertEqual(in_rows(()), [])

    def test_comes_first(self):
        one, two, three = steps((0, 0, 2, 0), (0, 0, 2, 1), (0, 1, 1, 0))
        self.assertIs(comes_first(one, two), True)
        self.assertIs(comes_first(two, one), False)
        self.assertIs(comes_first(two, three), True)
        self.assertIs(comes_first(three, two), False)
        self.assertIs(comes_first(one, one), False)

    def test_turned_from(self):
        ends = [spot(*one) for one in ((0, -1), (1, 0), (-1, 0), (2, 2), (0, 1), (-1, -1), (3, -3), (-1, 4))]
        found = unchanged(self, turned_from, spot(0, 0), ends)
        self.assertEqual(found, [spot(*one) for one in ((1, 0), (2, 2), (0, 1), (-1, 4), (-1, 0), (-1, -1), (0, -1),
                                                        (3, -3))])
        self.assertEqual(turned_from(spot(5, 5), (spot(5, 4), spot(5, 6))), [spot(5, 6), spot(5, 4)])


class Rounds(unittest.TestCase):
    def test_of_a_square(self):
        found = rounds_of(pieces_of(ring_steps(SQUARE)))
        self.assertEqual(sorted(turned(row) for row in found), sorted([SQUARE, turned(SQUARE[::-1])]))
        self.assertEqual([row.__class__ for row in (found, *found)], [tuple] * 3)

    def test_of_two_squares_side_by_side(self):
        one, other = box_ring(0, 0, 1, 1), box_ring(1, 0, 1, 1)
        found = rounds_of(pieces_of(ring_steps(one, other)))
        about = ring((0, 0), (0, 1), (1, 1), (2, 1), (2, 0), (1, 0))
        self.assertEqual(sorted(turned(row) for row in found), sorted([turned(one), turned(other), about]))

    def test_of_a_loose_piece(self):
        self.assertEqual([turned(row) for row in rounds_of(steps((0, 0, 1, 1)))], [ring((0, 0), (1, 1))])

    def test_each_piece_is_gone_along_both_ways(self):
        for seed in range(20):
            pieces = pieces_of(some_steps(8, 100 + seed))
            found = rounds_of(pieces)
            gone = [one for row in found for one in zip(row, row[1:] + row[:1])]
            self.assertEqual(sorted(gone), sorted([one for one in pieces] + [one[::-1] for one in pieces]))

    def test_none(self):
        self.assertEqual(rounds_of(()), ())


class Faces(unittest.TestCase):
    def test_none(self):
        self.assertEqual(faces_of([]), ())
        self.assertEqual(faces_of(steps((0, 0, 1, 1), (1, 1, 3, 0))), ())

    def test_a_square(self):
        found = unchanged(self, faces_of, ring_steps(SQUARE[::-1]))
        self.assertEqual(plain_faces(found), [(SQUARE, [])])
        (outer, holes), = found
        self.assertEqual([one.__class__ for one in (found, found[0], outer, holes)], [tuple] * 4)

    def test_steps_that_cross_make_four(self):
        found = faces_of(ring_steps(box_ring(0, 0, 2, 2)) + CROSS)
        self.assertEqual(len(found), 4)
        self.assertEqual({number(face_area(face)) for face in found}, {1})

    def test_overlapping_squares(self):
        found = faces_of(ring_steps(box_ring(0, 0, 2, 2), box_ring(1, 1, 2, 2)))
        self.assertEqual(sorted(number(face_area(face)) for face in found), [1, 3, 3])

    def test_a_hole(self):
        found = faces_of(ring_steps(SQUARE, INNER))
        self.assertEqual(plain_faces(found), [(SQUARE, [turned(INNER[::-1])]), (INNER, [])])
        self.assertEqual(sorted(number(face_area(face)) for face in found), [16, 48])
        hole = [face for face in found if face[1] != ()][0][1][0]
        self.assertEqual(area(hole), (-16, 1))
        self.assertIs(hole.__class__, tuple)

    def test_holes_within_holes(self):
        found = faces_of(ring_steps(SQUARE, INNER, INMOST))
        self.assertEqual(plain_faces(found), sorted([
            (SQUARE, [turned(INNER[::-1])]), (INNER, [turned(INMOST[::-1])]), (INMOST, [])]))

    def test_two_holes(self):
        one, other = box_ring(1, 1, 1, 1), box_ring(5, 5, 1, 1)
        found = faces_of(ring_steps(one, SQUARE, other))
        self.assertIn((SQUARE, sorted([turned(one[::-1]), turned(other[::-1])])), plain_faces(found))
        self.assertEqual(sorted(number(face_area(face)) for face in found), [1, 1, 62])

    def test_a_hole_of_two_squares(self):
        found = faces_of(ring_steps(SQUARE, box_ring(1, 1, 1, 1), box_ring(2, 1, 1, 1)))
        self.assertEqual(sorted(len(face[1]) for face in found), [0, 0, 1])
        self.assertEqual(sorted(number(face_area(face)) for face in found), [1, 1, 62])

    def test_a_hole_that_touches_its_outer_round_at_a_corner(self):
        inner = ring((0, 0), (4, 1), (4, 4), (1, 4))
        found = faces_of(ring_steps(SQUARE, inner))
        self.assertEqual([face[1] for face in found], [(), ()])
        self.assertEqual(sorted(len(face[0]) for face in found), [4, 8])
        outer = [face[0] for face in found if len(face[0]) == 8][0]
        self.assertEqual(list(outer).count(spot(0, 0)), 2)
        self.assertEqual(sorted(number(face_area(face)) for face in found), [12, 52])

    def test_a_hole_that_touches_its_outer_round_on_an_edge(self):
        inner = ring((3, 0), (5, 3), (1, 3))
        found = faces_of(ring_steps(SQUARE, inner))
        self.assertEqual([face[1] for face in found], [(), ()])
        self.assertEqual(sorted(number(face_area(face)) for face in found), [6, 58])

    def test_holes_that_touch_each_other(self):
        found = faces_of(ring_steps(SQUARE, box_ring(1, 1, 2, 2), box_ring(3, 3, 2, 2)))
        hole, = [face[1] for face in found if face[1] != ()]
        self.assertEqual([len(row) for row in hole], [8])
        self.assertEqual(sorted(number(face_area(face)) for face in found), [4, 4, 56])

    def test_loose_ends(self):
        loose = steps((0, 0, 3, 3), (3, 3, 3, 5))
        (outer, holes), = faces_of(ring_steps(SQUARE) + loose)
        self.assertEqual((len(outer), holes), (8, ()))
        self.assertEqual(face_area((outer, holes)), (64, 1))

    def test_a_loose_lot_within(self):
        (outer, holes), = faces_of(ring_steps(SQUARE) + steps((3, 3, 4, 4), (4, 4, 5, 3)))
        self.assertEqual(turned(outer), SQUARE)
        self.assertEqual([turned(hole) for hole in holes], [ring((3, 3), (4, 4), (5, 3), (4, 4))])
        self.assertEqual(face_area((outer, holes)), (64, 1))

    def test_loose_ends_outside(self):
        found = faces_of(ring_steps(SQUARE) + steps((8, 8, 9, 9), (20, 20, 21, 20)))
        self.assertEqual(plain_faces(found), [(SQUARE, [])])

    def test_lots_apart(self):
        other = box_ring(20, 0, 3, 3)
        found = faces_of(ring_steps(other, SQUARE))
        self.assertEqual(plain_faces(found), [(SQUARE, []), (other, [])])

    def test_each_point_is_in_just_one_face_or_on_an_edge_or_outside(self):
        rand = random.Random(9)
        for seed in range(15):
            rows = some_steps(10, 200 + seed) + ring_steps(box_ring(0, 0, 6, 6))
            found = faces_of(rows)
            self.assertEqual(sum(number(face_area(face)) for face in found), 36)
            for _ in range(25):
                one = spot(Fraction(rand.randint(0, 14), 2), Fraction(rand.randint(0, 14), 2))
                on = any(between(start, end, one) for start, end in rows)
                out = not on and max(pair(one)) > 6
                self.assertEqual(len([face for face in found if in_face(face, one)]), 0 if on or out else 1)

    def test_inner_points_lie_strictly_within(self):
        for seed in range(40):
            rows = some_steps(12, 300 + seed, 7)
            found = faces_of(rows)
            for face in found:
                one = unchanged(self, inner_point, face)
                self.assertEqual([here for here in found if in_face(here, one)], [face])
                self.assertFalse(any(between(start, end, one) for start, end in rows))

    def test_inner_points_by_holes_and_loose_ends(self):
        slit = steps((0, 0, 7, 7))
        for rows in (ring_steps(SQUARE, INNER), ring_steps(SQUARE) + slit, ring_steps(SQUARE, INNER, INMOST),
                     ring_steps(SQUARE, box_ring(1, 1, 1, 1), box_ring(Fraction(1, 2), Fraction(1, 2), 7, 7)),
                     ring_steps(SQUARE) + steps((1, 1, 2, 2), (Fraction(1, 3), Fraction(1, 3), 1, Fraction(1, 3))),
                     ring_steps(SQUARE, ring((0, 0), (4, 1), (4, 4), (1, 4)))):
            for face in faces_of(rows):
                one = inner_point(face)
                self.assertTrue(in_face(face, one))
                self.assertFalse(any(between(start, end, one) for start, end in rows))

    def test_inner_point_of_one_made_by_hand(self):
        face = [list(SQUARE[2:] + SQUARE[:2]), [list(INNER[::-1])]]
        self.assertTrue(in_face(face, unchanged(self, inner_point, face)))

    def test_inner_point_stays_this_side_of_all_in_its_corner(self):
        three = ring((0, 0), (10, 0), (0, 10))
        near, far = box_ring(1, 1, 3, 3)[::-1], box_ring(5, 1, 1, 1)[::-1]
        for k in range(4):
            for holes in ((near[k:] + near[:k],), (far, near[k:] + near[:k]), (near[k:] + near[:k], far)):
                for n in range(3):
                    face = (three[n:] + three[:n], holes)
                    self.assertTrue(in_face(face, inner_point(face)))

    def test_in_corner(self):
        three = (spot(0, 4), spot(0, 0), spot(4, 0))
        for one, found in (((1, 1), True), ((2, 2), True), ((0, 2), True), ((0, 0), True), ((3, 0), True),
                           ((3, 2), False), ((-1, 1), False), ((1, -1), False)):
            self.assertIs(in_corner(*three, spot(*one)), found)

    def test_side_far(self):
        line = (spot(0, 4), spot(4, 0))
        self.assertIs(side_far(*line, spot(0, 0), spot(1, 1)), True)
        self.assertIs(side_far(*line, spot(1, 1), spot(0, 0)), False)
        self.assertIs(side_far(*line, spot(1, 0), spot(0, 1)), False)
        self.assertIs(side_far(*line, spot(1, 1), spot(2, 2)), True)

    def test_lies_in(self):
        self.assertIs(unchanged(self, lies_in, list(INNER), list(SQUARE)), True)
        self.assertIs(lies_in(INNER[::-1], SQUARE), True)
        self.assertIs(lies_in(SQUARE, INNER), False)
        self.assertIs(lies_in(SQUARE, SQUARE), False)
        self.assertIs(lies_in(box_ring(0, 1, 2, 2), SQUARE), False)
        self.assertIs(lies_in(box_ring(6, 6, 3, 1), SQUARE), False)
        self.assertIs(lies_in(box_ring(20, 20, 1, 1), SQUARE), False)

    def test_lies_in_by_steps_that_go_out(self):
        deep = ring((0, 0), (8, 0), (8, 8), (6, 8), (6, 2), (2, 2), (2, 8), (0, 8))
        self.assertIs(lies_in(ring((1, 7), (7, 7), (7, 1), (1, 1)), deep), False)
        self.assertIs(lies_in(ring((1, 1), (7, 1), (7, 7)), deep), False)
        self.assertIs(lies_in(ring((1, 1), (7, 1)), deep), True)
        self.assertIs(lies_in(ring((1, 1)), deep), True)

    def test_lies_in_beside_a_slant(self):
        three = ring((0, 0), (10, 0), (0, 10))
        self.assertIs(lies_in(ring((1, 1), (4, 4), (1, 4)), three), True)
        self.assertIs(lies_in(ring((1, 1), (5, 5), (1, 4)), three), False)
        self.assertIs(lies_in(ring((1, 1)), three), True)

    def test_in_face(self):
        face = (SQUARE, (INNER[::-1],))
        for one, found in (((1, 1), True), ((3, 3), False), ((2, 3), False), ((0, 1), False), ((9, 1), False),
                           ((8, 8), False), ((2, 2), False)):
            self.assertIs(in_face(face, spot(*one)), found)

    def test_face_area(self):
        self.assertEqual(face_area((SQUARE, (INNER[::-1],))), (48, 1))
        self.assertEqual(face_area((SQUARE, ())), (64, 1))
        half = ring((0, 0), (1, 0), (0, 1))
        self.assertEqual(face_area([half, []]), (1, 2))

    def test_edges_of(self):
        hole = INMOST[::-1]
        self.assertEqual(edges_of((SQUARE, (hole,))), tuple(ring_steps(SQUARE) + ring_steps(hole)))
        self.assertEqual(edges_of((SQUARE, ())), tuple(ring_steps(SQUARE)))

    def test_outline(self):
        faces = ((INNER, ()), (box_ring(-1, 5, 1, 9), (INMOST[::-1],)))
        self.assertEqual(unchanged(self, outline, faces), tuple(part_of(k) for k in (-1, 2, 6, 14)))
        self.assertEqual(outline([(SQUARE, (INNER[::-1],))]), box(SQUARE))

    def test_outline_refuses_none(self):
        for none in ((), []):
            with self.assertRaises(BadRing):
                outline(none)

    def test_nought_as_a_low_is_refused(self):
        rows = CROSS + [(spot(0, 0), BAD), (spot(1, 1), BAD)]
        for work in (pieces_of, faces_of, counts_of):
            with self.assertRaises(BadPart):
                work(rows)
        face = (SQUARE + (BAD,), ())
        for work in (face_area, lambda one: in_face(one, spot(1, 1)), inner_point):
            with self.assertRaises(BadPart):
                work(face)
        with self.assertRaises(BadPart):
            lies_in((BAD,), SQUARE)
        with self.assertRaises(BadPart):
            in_corner(spot(0, 0), spot(1, 0), spot(0, 1), BAD)
        with self.assertRaises(BadPart):
            side_far(spot(0, 0), spot(1, 0), spot(0, 1), BAD)
        with self.assertRaises(BadPart):
            turned_from(spot(0, 0), [spot(1, 1), BAD])
        with self.assertRaises(BadPart):
            rounds_of([(spot(0, 0), spot(1, 1)), (spot(0, 0), BAD)])


class Counts(unittest.TestCase):
    def test_none(self):
        self.assertEqual(counts_of([]), (0, 0, 0, 0))

    def test_some(self):
        self.assertEqual(counts_of(ring_steps(SQUARE)), (4, 4, 1, 1))
        self.assertEqual(counts_of(CROSS), (5, 4, 0, 1))
        self.assertEqual(counts_of(ring_steps(SQUARE, INNER)), (8, 8, 2, 2))
        self.assertEqual(counts_of(ring_steps(box_ring(0, 0, 2, 2)) + CROSS), (5, 8, 4, 1))
        self.assertEqual(counts_of(ring_steps(SQUARE) + steps((0, 0, 3, 3), (20, 20, 21, 20))), (7, 6, 1, 2))
        self.assertEqual(counts_of(ring_steps(box_ring(0, 0, 1, 1), box_ring(1, 1, 1, 1))), (7, 8, 2, 1))
        self.assertIs(counts_of([]).__class__, tuple)

    def test_points_less_pieces_and_faces_are_lots(self):
        for seed in range(20):
            rows = some_steps(9, 400 + seed, 9)
            points, pieces, faces, lots = unchanged(self, counts_of, rows)
            self.assertEqual(points - pieces + faces, lots)
            self.assertEqual(faces, len(faces_of(rows)))
            self.assertEqual(lots, count_lots(pieces_of(rows)))


def count_lots(pieces):
    """Return how many lots of pieces hang together, by joining their ends."""
    lot = {one: one for piece in pieces for one in piece}
    for start, end in pieces:
        old, new = lot[start], lot[end]
        lot = {one: new if mine == old else mine for one, mine in lot.items()}
    return len(set(lot.values()))


class Compared(unittest.TestCase):
    def test_plain_face_tells_unlike_ones(self):
        self.assertNotEqual(plain_face((SQUARE, ())), plain_face((SQUARE[::-1], ())))
        self.assertEqual(plain_face((SQUARE[1:] + SQUARE[:1], ())), plain_face((SQUARE, ())))


if __name__ == "__main__":
    unittest.main()
