import random
import unittest
from fractions import Fraction

from borderwright.cells import map_of
from borderwright.errors import BadPart, BadRing
from borderwright.faces import inner_point
from borderwright.maps import Map
from borderwright.overlays import same_map
from borderwright.rings import area, to_left
from borderwright.shapes import (
    Change, flat_change, moved_by, quarter_turned, stretched, three_to_three, turned_alike,
)
from helper import (
    box_ring, keeps_map, map_state, number, pair, part_of, refused_keeps_map, refused_unchanged, ring, ring_steps,
    spot, tuples_all_through, unchanged,
)

HALF = Fraction(1, 2)
HOOK = ring((0, 0), (3, 0), (3, 1), (1, 1), (1, 2), (0, 2))
FLAT = ring((0, 0), (1, 1), (2, 2))


def change(*numbers):
    """Return the change of six numbers."""
    return Change([part_of(one) for one in numbers])


def told(made):
    """Return a change's six numbers."""
    return tuple(number(one) for one in made.shown())


def some_numbers(rand):
    """Return six numbers."""
    return [Fraction(rand.randint(-6, 6), rand.randint(1, 4)) for _ in range(6)]


def gone(six, one):
    """Return where a pair of numbers goes by six numbers."""
    a, b, c, d, e, f = six
    return (a * one[0] + b * one[1] + c, d * one[0] + e * one[1] + f)


class Made(unittest.TestCase):
    def test_parts_are_made_small(self):
        found = unchanged(self, Change, [(2, 4), (3, -6), (0, 5), (8, 2), (-4, -4), (1, 1)])
        self.assertEqual(found.six, ((1, 2), (-1, 2), (0, 1), (4, 1), (1, 1), (1, 1)))
        self.assertEqual(found.shown(), found.six)
        tuples_all_through(self, found.six)
        tuples_all_through(self, found.shown())
        self.assertEqual(Change(((1, 1),) * 6).six, ((1, 1),) * 6)

    def test_other_counts_are_refused(self):
        for many in (0, 1, 5, 7, 12):
            refused_unchanged(self, BadPart, Change, [(1, 1)] * many)

    def test_parts_by_nought_are_refused(self):
        for place in range(6):
            parts = [(1, 1)] * 6
            parts[place] = (1, 0)
            refused_unchanged(self, BadPart, Change, parts)
        refused_unchanged(self, BadPart, Change, [(1, 0)])


class Points(unittest.TestCase):
    def test_of(self):
        found = unchanged(self, change(2, 3, 5, 7, 11, 13).of, spot(1, HALF))
        self.assertEqual(found, spot(Fraction(17, 2), Fraction(51, 2)))
        tuples_all_through(self, found)
        self.assertEqual(change(0, 0, 4, 0, 0, 5).of(spot(9, 9)), spot(4, 5))

    def test_by(self):
        self.assertEqual(change(2, 3, 5, 7, 11, 13).by(), (1, 1))
        self.assertEqual(change(0, 1, 9, 1, 0, 9).by(), (-1, 1))
        self.assertEqual(change(HALF, 0, 0, 0, Fraction(1, 3), 0).by(), (1, 6))
        self.assertEqual(change(1, 2, 3, 2, 4, 5).by(), (0, 1))

    def test_against_sums(self):
        rand = random.Random(41)
        for _ in range(40):
            six, others = some_numbers(rand), some_numbers(rand)
            made, first = change(*six), change(*others)
            one = (Fraction(rand.randint(-9, 9), 5), Fraction(rand.randint(-9, 9), 7))
            self.assertEqual(pair(made.of(spot(*one))), gone(six, one))
            self.assertEqual(number(made.by()), six[0] * six[4] - six[1] * six[3])
            # Behind: the other first.
            self.assertEqual(pair(made.behind(first).of(spot(*one))), gone(six, gone(others, one)))
            self.assertEqual(number(made.behind(first).by()), number(made.by()) * number(first.by()))
            if made.by()[0] != 0:
                self.assertEqual(pair(made.back().of(made.of(spot(*one)))), one)
                self.assertEqual(pair(made.of(made.back().of(spot(*one)))), one)
                self.assertEqual(told(made.back().behind(made)), (1, 0, 0, 0, 1, 0))

    def test_behind_changes_neither(self):
        one, other = change(0, -1, 0, 1, 0, 0), change(1, 0, 5, 0, 1, 0)
        found = one.behind(other)
        self.assertEqual(told(found), (0, -1, 0, 1, 0, 5))
        self.assertEqual(told(other.behind(one)), (0, -1, 5, 1, 0, 0))
        self.assertIs(found.__class__, Change)
        self.assertEqual((told(one), told(other)), ((0, -1, 0, 1, 0, 0), (1, 0, 5, 0, 1, 0)))

    def test_back(self):
        self.assertEqual(told(change(2, 0, 3, 0, 4, 5).back()), (
            HALF, 0, -3 * HALF, 0, Fraction(1, 4), -Fraction(5, 4)))
        self.assertEqual(told(change(1, 2, 0, 0, 1, 0).back()), (1, -2, 0, 0, 1, 0))

    def test_back_of_what_goes_flat_is_refused(self):
        for six in ((1, 2, 3, 2, 4, 5), (0, 0, 0, 0, 0, 0), (0, 0, 1, 1, 1, 1), (1, 0, 7, 3, 0, 7)):
            made = change(*six)
            self.assertRaises(BadPart, made.back)
            self.assertEqual(told(made), six)

    def test_of_ring_as_it_stands(self):
        found = unchanged(self, change(-1, 0, 0, 0, 1, 0).of_ring, list(HOOK))
        self.assertEqual(found, ring((0, 0), (-3, 0), (-3, 1), (-1, 1), (-1, 2), (0, 2)))
        tuples_all_through(self, found)
        self.assertEqual(moved_by((1, 2), (1, 1)).of_ring(HOOK[::-1]), ring(
            (HALF, 3), (3 * HALF, 3), (3 * HALF, 2), (7 * HALF, 2), (7 * HALF, 1), (HALF, 1)))


class Maps(unittest.TestCase):
    ROWS = (("aab", "a.b", "abb"), ("a.b",), ("aaaa", "a.ca", "acca", "aaaa"), ("ab", "ba"), (".",))

    def test_of_map(self):
        made = map_of(["aab", "a.b", "abb"])
        found = keeps_map(self, made, lambda here: change(2, 0, 1, 0, -3, 0).of_map(here))
        self.assertEqual(found.names(), ("a", "b"))
        self.assertEqual(found.rings("a"), tuple(
            tuple(spot(2 * x + 1, -3 * y) for x, y in (pair(one) for one in row)) for row in made.rings("a")))
        self.assertEqual([found.area(name) for name in "ab"], [(24, 1), (24, 1)])
        self.assertEqual(found.neighbours(), (("a", "b"),))
        self.assertEqual(len(found.gaps()), 1)

    def test_what_goes_flat_is_refused(self):
        for rows in self.ROWS:
            for six in ((1, 2, 3, 2, 4, 5), (0, 0, 0, 0, 0, 0)):
                made = change(*six)
                refused_keeps_map(self, BadPart, map_of(rows), lambda here: made.of_map(here))
                self.assertEqual(told(made), six)

    def test_sizes_neighbours_and_gaps(self):
        rand = random.Random(42)
        for _ in range(20):
            six = some_numbers(rand)
            by = abs(six[0] * six[4] - six[1] * six[3])
            if by == 0:
                continue
            go = change(*six)
            for rows in self.ROWS:
                made = map_of(rows)
                # No two regions overlap, or the map would be refused.
                found = go.of_map(made)
                self.assertEqual(found.names(), made.names())
                for name in made.names():
                    self.assertEqual(number(found.area(name)), number(made.area(name)) * by)
                self.assertEqual(number(found.whole()), number(made.whole()) * by)
                self.assertEqual(found.neighbours(), made.neighbours())
                self.assertEqual(sorted(abs(number(area(row))) for row in found.gaps()),
                                 sorted(abs(number(area(row))) * by for row in made.gaps()))
                for face, owner in zip(made.faces, made.owners):
                    self.assertEqual(found.owner_of(go.of(inner_point(face))), owner)
                back = go.back().of_map(found)
                self.assertTrue(same_map(made, back))
                self.assertEqual(map_state(back)[0], map_state(made)[0])

    def test_regions_stay_in_the_order_they_have(self):
        made = Map({"b": [box_ring(0, 0, 1, 1)], "a": [box_ring(5, 0, 1, 1)], "c": []})
        self.assertEqual(list(change(1, 0, 0, 0, 1, 0).of_map(made).regions), ["b", "a", "c"])


class Kinds(unittest.TestCase):
    def test_moved_by(self):
        found = unchanged(self, moved_by, (1, 2), (-3, 1))
        self.assertEqual((found.__class__, told(found)), (Change, (1, 0, HALF, 0, 1, -3)))
        refused_unchanged(self, BadPart, moved_by, (1, 0), (1, 1))

    def test_stretched(self):
        found = unchanged(self, stretched, (1, 2), (-3, 1))
        self.assertEqual((found.__class__, told(found)), (Change, (HALF, 0, 0, 0, -3, 0)))
        self.assertEqual(stretched((0, 1), (4, 2)).by(), (0, 1))
        refused_unchanged(self, BadPart, stretched, (1, 1), (1, 0))

    def test_quarter_turned(self):
        turns = [(1, 0, 0, 0, 1, 0), (0, -1, 0, 1, 0, 0), (-1, 0, 0, 0, -1, 0), (0, 1, 0, -1, 0, 0)]
        for many in range(-9, 6):
            self.assertEqual(told(quarter_turned(many)), turns[many % 4])
        # Right goes up, up goes left.
        self.assertEqual(quarter_turned(1).of(spot(1, 0)), spot(0, 1))
        self.assertEqual(quarter_turned(1).of(spot(0, 1)), spot(-1, 0))
        self.assertEqual(quarter_turned(5).of(spot(3, 2)), spot(-2, 3))
        self.assertEqual(quarter_turned(-1).of(spot(3, 2)), spot(2, -3))

    def test_flat_change(self):
        found = unchanged(self, flat_change, list(ring((1, 2), (4, 6), (HALF, 2))))
        self.assertEqual(told(found), (3, -HALF, 1, 4, 0, 2))
        for here, there in (((0, 0), (1, 2)), ((1, 0), (4, 6)), ((0, 1), (HALF, 2))):
            self.assertEqual(found.of(spot(*here)), spot(*there))
        self.assertEqual(flat_change(FLAT).by(), (0, 1))

    def test_three_to_three_there_and_back(self):
        rand = random.Random(43)
        for _ in range(40):
            one = [spot(Fraction(rand.randint(-9, 9), 2), rand.randint(-5, 5)) for _ in range(3)]
            other = [spot(rand.randint(-5, 5), Fraction(rand.randint(-9, 9), 3)) for _ in range(3)]
            if area(one)[0] == 0:
                refused_unchanged(self, BadPart, three_to_three, one, other)
                continue
            found = unchanged(self, three_to_three, one, other)
            self.assertEqual(found.of_ring(one), tuple(other))
            if area(other)[0] != 0:
                back = three_to_three(other, one)
                self.assertEqual(told(back.behind(found)), (1, 0, 0, 0, 1, 0))
                self.assertEqual(told(back), told(found.back()))

    def test_three_to_three_of_points_in_one_line_is_refused(self):
        for one in (FLAT, ring((1, 1), (1, 1), (2, 0)), ring((0, 0), (0, 0), (0, 0)), ring((0, 0), (2, 4), (1, 2))):
            refused_unchanged(self, BadPart, three_to_three, one, HOOK[:3])

    def test_three_may_go_to_one_line(self):
        found = three_to_three(HOOK[:3], FLAT)
        self.assertEqual((found.of_ring(HOOK[:3]), found.by()), (FLAT, (0, 1)))


class Alike(unittest.TestCase):
    def test_each_count_of_quarters_moved_too(self):
        for many in range(4):
            for x, y in ((0, 0), (7, -3), (HALF, Fraction(-22, 7))):
                other = moved_by(part_of(x), part_of(y)).of_ring(quarter_turned(many).of_ring(HOOK))
                self.assertEqual(unchanged(self, turned_alike, HOOK, list(other)), many)
                self.assertEqual(turned_alike(other, HOOK), (4 - many) % 4)

    def test_the_first_count(self):
        self.assertEqual(turned_alike(box_ring(0, 0, 1, 1), box_ring(5, 5, 1, 1)), 0)
        self.assertEqual(turned_alike(box_ring(0, 0, 2, 1), box_ring(5, 5, 1, 2)), 1)
        self.assertEqual(turned_alike(box_ring(0, 0, 2, 1), box_ring(5, 5, 2, 1)), 0)

    def test_told_from_another_corner_on_or_the_other_way_round(self):
        for many in range(4):
            other = quarter_turned(many).of_ring(HOOK)
            for place in range(6):
                row = other[place:] + other[:place]
                self.assertEqual(turned_alike(HOOK, row), many)
                self.assertEqual(turned_alike(HOOK, row[::-1]), many)
                self.assertEqual(turned_alike(HOOK[::-1], row), many)

    def test_none(self):
        mirrored = stretched((-1, 1), (1, 1)).of_ring(HOOK)
        for other in (mirrored, stretched((2, 1), (2, 1)).of_ring(HOOK), box_ring(0, 0, 2, 2), HOOK[:3],
                      ring((0, 0), (3, 0), (3, 1), (1, 1), (1, 3), (0, 3))):
            self.assertIsNone(turned_alike(HOOK, other))
            self.assertIsNone(turned_alike(other, HOOK))

    def test_corners_on_the_way_count(self):
        row = ring((0, 0), (1, 0), (2, 0), (2, 2), (0, 2))
        self.assertIsNone(turned_alike(row, box_ring(0, 0, 2, 2)))
        self.assertEqual(turned_alike(row, quarter_turned(3).of_ring(row)), 3)

    def test_flat_ones_are_refused(self):
        for one, other in ((FLAT, HOOK), (HOOK, FLAT), (FLAT, FLAT), (ring((0, 0), (1, 0), (0, 0)), HOOK)):
            refused_unchanged(self, BadRing, turned_alike, one, other)

    def test_against_all_turns(self):
        rand = random.Random(44)
        for _ in range(60):
            one = to_left([spot(rand.randint(0, 2), rand.randint(0, 2)) for _ in range(3)])
            other = [spot(rand.randint(0, 2), rand.randint(0, 2)) for _ in range(3)]
            if area(one)[0] == 0 or area(other)[0] == 0:
                continue
            wanted = None
            for many in (3, 2, 1, 0):
                row = [pair(here) for here in quarter_turned(many).of_ring(one)]
                there = sorted(pair(here) for here in other)
                x, y = there[0][0] - min(row)[0], there[0][1] - min(row)[1]
                if sorted((a + x, b + y) for a, b in row) == there:
                    wanted = many
            self.assertEqual(turned_alike(one, other), wanted)


class Steps(unittest.TestCase):
    def test_steps_turn_with_the_ring(self):
        rand = random.Random(45)
        for _ in range(10):
            go = change(*some_numbers(rand))
            rows = ring_steps(go.of_ring(HOOK))
            self.assertEqual(rows, [(go.of(start), go.of(end)) for start, end in ring_steps(HOOK)])


if __name__ == "__main__":
    unittest.main()
