import random
import unittest
from fractions import Fraction

from borderwright.errors import BadMap, BadPart, BadRing, NoSuch
from borderwright.faces import face_area, faces_of
from borderwright.maps import Map, all_sizes, check_whole, sides_of
from borderwright.rings import where
from helper import (
    box_ring, number, part_of, plain_faces, refused_unchanged, ring, ring_steps, spot, step, turned, unchanged,
)

BAD = ((1, 0), (0, 1))
HALF = Fraction(1, 2)


def two():
    """Return the map of two boxes side by side: a is 2 wide, b is 3, both are 2 high."""
    return Map({"b": [box_ring(2, 0, 3, 2)], "a": [box_ring(0, 0, 2, 2)]})


def island():
    """Return the map of a ring-shaped region, a gap in it, and an island in the gap."""
    return Map({"sea": [box_ring(0, 0, 9, 9), box_ring(2, 2, 5, 5)], "land": [box_ring(3, 3, 2, 2)]})


def grid(wide, high):
    """Return the map of unit squares, named by their columns and rows."""
    return Map({f"{x}{y}": [box_ring(x, y, 1, 1)] for x in range(wide) for y in range(high)})


class Made(unittest.TestCase):
    def test_fields(self):
        made = two()
        self.assertEqual(made.regions, {"a": (box_ring(0, 0, 2, 2),), "b": (box_ring(2, 0, 3, 2),)})
        self.assertEqual(plain_faces(made.faces), [(box_ring(0, 0, 2, 2), []), (box_ring(2, 0, 3, 2), [])])
        self.assertEqual(sorted(made.owners), ["a", "b"])
        for face, owner in zip(made.faces, made.owners):
            self.assertEqual(turned(face[0]), made.regions[owner][0])
        self.assertEqual(made.sides, made.borders())
        kinds = [one.__class__ for one in (made.regions, made.regions["a"], made.faces, made.owners, made.sides)]
        self.assertEqual(kinds, [dict, tuple, tuple, list, dict])

    def test_owners_of_gaps_are_none(self):
        made = island()
        told = {number(face_area(face)): owner for face, owner in zip(made.faces, made.owners)}
        self.assertEqual(told, {56: "sea", 21: None, 4: "land"})

    def test_what_is_handed_in_is_unchanged_and_not_kept(self):
        rows = [[((0, 3), (0, 1)), ((4, 2), (0, 1)), ((2, 1), (2, -1)), ((0, 1), (-2, 1))]]
        handed = {"a": rows}
        made = unchanged(self, Map, handed)
        self.assertEqual(made.regions["a"], (ring((0, 0), (2, 0), (2, -2), (0, -2)),))
        rows.append([])
        handed["b"] = []
        self.assertEqual(made.names(), ("a",))
        self.assertEqual(made.area("a"), (4, 1))

    def test_no_regions(self):
        made = Map({})
        self.assertEqual((made.faces, made.owners, made.regions, made.sides), ((), [], {}, {}))
        self.assertEqual((made.whole(), made.names(), made.gaps(), made.neighbours()), ((0, 1), (), (), ()))
        self.assertEqual((made.borders(), made.shown(), made.at(spot(0, 0))), ({}, (), ()))
        self.assertIsNone(made.owner_of(spot(0, 0)))

    def test_a_region_of_no_rings(self):
        made = Map({"a": [], "b": [box_ring(0, 0, 1, 1)]})
        self.assertEqual((made.area("a"), made.rings("a"), made.parts("a"), made.coast("a")), ((0, 1), (), (), (0, 1)))
        self.assertEqual(made.names(), ("a", "b"))

    def test_overlapping_regions_are_refused(self):
        for one, other in ((box_ring(0, 0, 2, 2), box_ring(1, 1, 2, 2)), (box_ring(0, 0, 2, 2), box_ring(0, 0, 2, 2)),
                           (box_ring(0, 0, 9, 9), box_ring(3, 3, 1, 1)), (box_ring(0, 0, 2, 2), box_ring(1, 0, 1, 2))):
            refused_unchanged(self, BadMap, Map, {"a": [one], "b": [other]})
            refused_unchanged(self, BadMap, Map, {"a": [one[::-1]], "b": [list(other)]})

    def test_bad_rings_are_refused(self):
        refused_unchanged(self, BadRing, Map, {"a": [box_ring(5, 5, 1, 1)], "b": [ring((0, 0), (2, 2), (2, 0), (0, 2))]})
        refused_unchanged(self, BadRing, Map, {"a": [[]]})
        refused_unchanged(self, BadPart, Map, {"a": [[spot(0, 0), spot(1, 0), BAD]]})

    def test_regions_may_touch_at_a_corner(self):
        made = Map({"a": [box_ring(0, 0, 1, 1)], "b": [box_ring(1, 1, 1, 1)]})
        self.assertEqual(made.neighbours(), ())
        self.assertEqual((made.coast("a"), made.whole()), ((4, 1), (2, 1)))
        self.assertEqual(made.at(spot(1, 1)), ("a", "b"))

    def test_regions_may_share_a_part_of_an_edge(self):
        made = Map({"a": [box_ring(0, 0, 1, 4)], "b": [box_ring(1, 1, 1, 1)], "c": [box_ring(1, 2, 3, 1)]})
        self.assertEqual(made.neighbours(), (("a", "b"), ("a", "c"), ("b", "c")))
        self.assertEqual(made.coast("a"), (8, 1))


class Points(unittest.TestCase):
    def test_covers_by_an_odd_count(self):
        made = island()
        for x, y, name, found in ((1, 1, "sea", True), (Fraction(5, 2), 3, "sea", False), (4, 4, "sea", False),
                                  (4, 4, "land", True), (1, 1, "land", False), (20, 1, "sea", False)):
            self.assertIs(made.covers(name, spot(x, y)), found)
        nested = Map({"a": [box_ring(0, 0, 9, 9), box_ring(1, 1, 7, 7), box_ring(2, 2, 5, 5)]})
        told = [nested.covers("a", spot(Fraction(1, 2) + k, Fraction(1, 2) + k)) for k in range(10)]
        self.assertEqual(told, [True, False] + [True] * 5 + [False, True, False])
        self.assertEqual([nested.at(spot(k, 4 + HALF)) for k in (HALF, 1 + HALF, 2 + HALF)], [("a",), (), ("a",)])
        self.assertEqual((nested.area("a"), nested.coast("a")), ((57, 1), (84, 1)))

    def test_rings_of_one_region_that_cross(self):
        made = Map({"a": [box_ring(0, 0, 2, 2), box_ring(1, 1, 2, 2)]})
        self.assertEqual(made.area("a"), (6, 1))
        self.assertEqual([turned(row) for row in made.gaps()], [box_ring(1, 1, 1, 1)])
        self.assertEqual(len(made.parts("a")), 2)

    def test_at(self):
        made = two()
        for x, y, found in ((1, 1, ("a",)), (3, 1, ("b",)), (2, 1, ("a", "b")), (2, 0, ("a", "b")), (0, 0, ("a",)),
                            (5, 2, ("b",)), (6, 2, ()), (1, 3, ()), (0, 1, ("a",)), (4, 2, ("b",))):
            self.assertEqual(made.at(spot(x, y)), found)
        self.assertEqual(made.at(((-4, -2), (2, 2))), ("a", "b"))

    def test_at_within_and_on_holes(self):
        made = island()
        for x, y, found in ((1, 1, ("sea",)), (2, 4, ("sea",)), (Fraction(5, 2), 4, ()), (3, 4, ("land",)),
                            (4, 4, ("land",)), (9, 9, ("sea",))):
            self.assertEqual(made.at(spot(x, y)), found)
        self.assertEqual(grid(3, 3).at(spot(1, 2)), ("01", "02", "11", "12"))

    def test_owner_of(self):
        made = island()
        for x, y, found in ((1, 1, "sea"), (2, 4, None), (Fraction(5, 2), 4, None), (3, 4, None), (4, 4, "land"),
                            (9, 9, None), (20, 20, None)):
            self.assertEqual(made.owner_of(spot(x, y)), found)
        self.assertEqual(made.owner_of(((-3, -3), (2, 2))), "sea")

    def test_owner_of_on_an_edge_within_one_region(self):
        made = Map({"a": [box_ring(0, 0, 1, 1), box_ring(1, 0, 1, 1)]})
        self.assertIsNone(made.owner_of(spot(1, Fraction(1, 2))))
        self.assertEqual(made.at(spot(1, Fraction(1, 2))), ("a",))
        self.assertEqual(made.coast("a"), (6, 1))

    def test_nought_as_a_low_is_refused(self):
        for work in (two().at, two().owner_of, lambda one: two().covers("a", one)):
            with self.assertRaises(BadPart):
                work(BAD)
        for work in (Map({}).at, Map({}).owner_of):
            with self.assertRaises(BadPart):
                work(BAD)


class Told(unittest.TestCase):
    def test_names_in_order(self):
        made = Map({"b": [], "aa": [], "a": [], "B": []})
        self.assertEqual(made.names(), ("B", "a", "aa", "b"))

    def test_rings(self):
        inner = box_ring(2, 2, 5, 5)
        self.assertEqual(island().rings("sea"), (box_ring(0, 0, 9, 9), inner))

    def test_sizes(self):
        made = two()
        self.assertEqual((made.area("a"), made.area("b"), made.whole()), ((4, 1), (6, 1), (10, 1)))
        made = island()
        self.assertEqual((made.area("sea"), made.area("land"), made.whole()), ((56, 1), (4, 1), (60, 1)))
        made = Map({"a": [ring((0, 0), (Fraction(1, 2), 0), (0, Fraction(1, 3)))]})
        self.assertEqual((made.area("a"), made.whole()), ((1, 12), (1, 12)))
        self.assertEqual(all_sizes(two()), (("a", (4, 1)), ("b", (6, 1))))
        self.assertEqual(all_sizes(Map({})), ())

    def test_size_of_a_region_in_two_places(self):
        made = Map({"a": [box_ring(0, 0, 1, 1), box_ring(5, 5, 2, 2)[::-1]]})
        self.assertEqual((made.area("a"), len(made.parts("a"))), ((5, 1), 2))

    def test_a_ring_within_a_ring(self):
        made = Map({"a": [box_ring(0, 0, 6, 6), box_ring(2, 2, 2, 2)], "b": [box_ring(2, 2, 2, 2)]})
        self.assertEqual((made.area("a"), made.area("b"), made.gaps()), ((32, 1), (4, 1), ()))
        self.assertEqual(made.neighbours(), (("a", "b"),))
        self.assertEqual((made.coast("a"), made.coast("b")), ((24, 1), (0, 1)))
        self.assertEqual(len(made.parts("a")[0][1]), 1)

    def test_gaps(self):
        self.assertEqual(two().gaps(), ())
        self.assertEqual(island().gaps(), (box_ring(2, 2, 5, 5),))
        rows = {"a": [box_ring(0, 0, 5, 1)], "b": [box_ring(0, 2, 5, 1)], "c": [box_ring(0, 1, 1, 1)],
                "d": [box_ring(2, 1, 1, 1)], "e": [box_ring(4, 1, 1, 1)]}
        found = Map(rows).gaps()
        self.assertEqual(sorted(found), [box_ring(1, 1, 1, 1), box_ring(3, 1, 1, 1)])
        self.assertEqual([one.__class__ for one in (found, *found)], [tuple] * 3)

    def test_gaps_are_told_as_the_faces_stand(self):
        made = Map({"a": [box_ring(0, 0, 9, 9), box_ring(5, 1, 1, 1), box_ring(1, 5, 1, 1), box_ring(3, 3, 1, 1)]})
        rows = [face[0] for face, owner in zip(made.faces, made.owners) if owner is None]
        self.assertEqual(made.gaps(), tuple(turned(row) for row in rows))

    def test_gaps_start_at_their_first_points(self):
        for shape in (ring((4, 1), (7, 4), (4, 7), (1, 4)), ring((1, 1), (6, 2), (3, 7)), ring((2, 6), (6, 1), (7, 7))):
            for row in (shape, shape[::-1]):
                self.assertEqual(Map({"a": [box_ring(0, 0, 9, 9), row]}).gaps(), (turned(shape),))

    def test_borders(self):
        found = two().borders()
        self.assertEqual(found, {
            step((0, 0), (0, 2)): (None, "a"), step((0, 0), (2, 0)): ("a", None), step((0, 2), (2, 2)): (None, "a"),
            step((2, 0), (2, 2)): ("a", "b"), step((2, 0), (5, 0)): ("b", None), step((2, 2), (5, 2)): (None, "b"),
            step((5, 0), (5, 2)): ("b", None)})
        self.assertEqual({one.__class__ for one in found.values()}, {tuple})

    def test_borders_told_may_be_changed_without_changing_the_map(self):
        made = two()
        made.borders().clear()
        self.assertEqual(len(made.borders()), 7)

    def test_borders_of_gaps(self):
        found = island().borders()
        self.assertEqual(found[step((2, 2), (7, 2))], (None, "sea"))
        self.assertEqual(found[step((2, 7), (7, 7))], ("sea", None))
        self.assertEqual(found[step((3, 3), (3, 5))], (None, "land"))
        self.assertEqual(len(found), 12)

    def test_borders_within_one_region(self):
        made = Map({"a": [box_ring(0, 0, 1, 1), box_ring(1, 0, 1, 1)]})
        self.assertEqual(made.borders()[step((1, 0), (1, 1))], ("a", "a"))
        self.assertEqual(made.neighbours(), ())

    def test_neighbours(self):
        self.assertEqual(two().neighbours(), (("a", "b"),))
        self.assertEqual(island().neighbours(), ())
        self.assertEqual(grid(2, 2).neighbours(), (("00", "01"), ("00", "10"), ("01", "11"), ("10", "11")))

    def test_neighbours_once_each_by_two_pieces(self):
        made = Map({"b": [ring((0, 0), (3, 0), (3, 3), (0, 3), (0, 2), (2, 2), (2, 1), (0, 1))],
                    "a": [box_ring(0, 1, 2, 1)]})
        self.assertEqual(made.neighbours(), (("a", "b"),))

    def test_coast(self):
        made = two()
        self.assertEqual((made.coast("a"), made.coast("b")), ((6, 1), (8, 1)))
        self.assertEqual((island().coast("sea"), island().coast("land")), ((56, 1), (8, 1)))
        slanted = Map({"a": [ring((0, 0), (4, 0), (0, 3))]})
        self.assertEqual(slanted.coast("a"), (14, 1))
        thirds = Map({"a": [box_ring(0, 0, Fraction(1, 3), Fraction(1, 2))]})
        self.assertEqual(thirds.coast("a"), (5, 3))

    def test_parts(self):
        made = island()
        face, = made.parts("sea")
        self.assertEqual(turned(face[0]), box_ring(0, 0, 9, 9))
        self.assertEqual([turned(hole) for hole in face[1]], [turned(box_ring(2, 2, 5, 5)[::-1])])
        self.assertEqual(made.parts("land"), tuple(
            face for face, owner in zip(made.faces, made.owners) if owner == "land"))
        many = Map({"a": [box_ring(4, 0, 1, 1), box_ring(0, 0, 1, 1), box_ring(2, 2, 1, 1)]})
        self.assertEqual(many.parts("a"), many.faces)

    def test_shown(self):
        self.assertEqual(two().shown(), (("a", (box_ring(0, 0, 2, 2),)), ("b", (box_ring(2, 0, 3, 2),))))

    def test_names_that_are_not_there(self):
        made = two()
        for work in (made.rings, made.area, made.coast, made.parts, lambda name: made.covers(name, spot(1, 1))):
            for name in ("c", "", "ab"):
                refused_unchanged(self, NoSuch, work, name)
        self.assertEqual(made.shown(), two().shown())

    def test_sides_of(self):
        one, other = box_ring(0, 0, 1, 1), box_ring(1, 0, 1, 1)
        found = sides_of(((one, ()), (other, ())), ["x", None])
        self.assertEqual(found, {
            step((0, 0), (0, 1)): (None, "x"), step((0, 0), (1, 0)): ("x", None), step((0, 1), (1, 1)): (None, "x"),
            step((1, 0), (1, 1)): ("x", None), step((1, 0), (2, 0)): (None, None), step((1, 1), (2, 1)): (None, None),
            step((2, 0), (2, 1)): (None, None)})
        self.assertEqual(sides_of((), []), {})

    def test_sides_of_holes_and_loose_ends(self):
        rows = ring_steps(box_ring(0, 0, 9, 9), box_ring(1, 1, 1, 1)) + [step((0, 9), (5, 5))]
        faces = faces_of(rows)
        names = ["big" if number(face_area(face)) == 80 else "small" for face in faces]
        found = unchanged(self, sides_of, faces, names)
        self.assertEqual(found[step((1, 1), (2, 1))], ("small", "big"))
        self.assertEqual(found[step((1, 1), (1, 2))], ("big", "small"))
        self.assertEqual(found[step((0, 9), (5, 5))], ("big", "big"))
        self.assertEqual(len(found), 9)


class Whole(unittest.TestCase):
    def test_whole_ones(self):
        self.assertIs(check_whole(two(), box_ring(0, 0, 5, 2)), True)
        self.assertIs(unchanged(self, lambda row: check_whole(two(), row), list(box_ring(0, 0, 5, 2)[::-1])), True)
        self.assertIs(check_whole(grid(3, 2), box_ring(0, 0, 3, 2)), True)

    def test_a_gap_is_refused(self):
        with self.assertRaises(BadMap):
            check_whole(island(), box_ring(0, 0, 9, 9))
        with self.assertRaises(BadMap):
            check_whole(two(), box_ring(0, 0, 5, 3))
        with self.assertRaises(BadMap):
            check_whole(Map({}), box_ring(0, 0, 5, 3))

    def test_what_is_outside_is_refused(self):
        with self.assertRaises(BadMap):
            check_whole(two(), box_ring(0, 0, 4, 2))
        with self.assertRaises(BadMap):
            check_whole(Map({"a": [box_ring(0, 0, 1, 1)], "b": [box_ring(5, 5, 1, 1)]}), box_ring(0, 0, 1, 1))

    def test_a_bad_ring_is_refused(self):
        with self.assertRaises(BadRing):
            check_whole(two(), ring((0, 0), (5, 0)))
        with self.assertRaises(BadPart):
            check_whole(two(), [spot(0, 0), spot(1, 0), BAD])


class Grids(unittest.TestCase):
    def test_whatever_is_done_no_gap_comes_and_none_overlap(self):
        rand = random.Random(11)
        for _ in range(12):
            cuts = sorted({Fraction(rand.randint(1, 40), rand.randint(3, 9)) for _ in range(4)})
            ups = sorted({Fraction(rand.randint(1, 40), rand.randint(3, 9)) for _ in range(3)})
            xs, ys = [0, *cuts, 50], [0, *ups, 50]
            made = Map({f"{i}.{k}": [box_ring(xs[i], ys[k], xs[i + 1] - xs[i], ys[k + 1] - ys[k])]
                        for i in range(len(xs) - 1) for k in range(len(ys) - 1)})
            self.assertIs(check_whole(made, box_ring(0, 0, 50, 50)), True)
            self.assertEqual((made.whole(), made.gaps()), ((2500, 1), ()))
            self.assertEqual(sum(number(made.coast(name)) for name in made.names()), 200)
            for _ in range(20):
                one = spot(Fraction(rand.randint(-5, 160), 3), Fraction(rand.randint(-5, 160), 3))
                mine = [name for name in made.names() if where(made.rings(name)[0], one) != "out"]
                self.assertEqual(made.at(one), tuple(mine))
                inside = [name for name in mine if where(made.rings(name)[0], one) == "in"]
                self.assertEqual([made.owner_of(one)], inside or [None])

    def test_parts_by_name(self):
        made = grid(2, 1)
        self.assertEqual(made.area(name="00"), part_of(1))
        self.assertEqual(Map(regions={}).names(), ())


if __name__ == "__main__":
    unittest.main()
