import unittest
from fractions import Fraction

from borderwright.errors import BadPart, BadSize, NoSuch
from borderwright.faces import face_area
from borderwright.maps import Map
from borderwright.overlays import Overlay, alike, check_names, greatest_share, only, same_map
from helper import box_ring, number, refused_unchanged, unchanged

HALF = Fraction(1, 2)


def row_map(names, x=0, y=0):
    """Return the map of unit squares in a row, named in turn, from a lowest corner on."""
    return Map({name: [box_ring(x + place, y, 1, 1)] for place, name in enumerate(names)})


def moved():
    """Return the overlay of two squares and two others moved by a half aside."""
    return Overlay(row_map("ab"), row_map("cd", HALF))


def gapped():
    """Return the overlay of a map with a gap and of one that fills it."""
    one = Map({"sea": [box_ring(0, 0, 4, 4), box_ring(1, 1, 2, 2)]})
    return Overlay(one, Map({"left": [box_ring(0, 0, 2, 4)], "right": [box_ring(2, 0, 2, 4)]}))


class Laid(unittest.TestCase):
    def test_fields(self):
        one, other = row_map("ab"), row_map("cd", HALF)
        laid = Overlay(one, other)
        self.assertIs(laid.one, one)
        self.assertIs(laid.other, other)
        self.assertEqual(len(laid.faces), 5)
        wanted = [("a", None), ("a", "c"), ("b", "c"), ("b", "d"), (None, "d")]
        self.assertEqual(sorted(laid.owners, key=str), sorted(wanted, key=str))
        kinds = [found.__class__ for found in (laid.faces, laid.owners, laid.owners[0])]
        self.assertEqual(kinds, [tuple, list, tuple])

    def test_faces_moved_by_a_half(self):
        laid = Overlay(row_map("ab"), row_map("cd", HALF, HALF))
        told = sorted((str(pair), number(face_area(face))) for face, pair in zip(laid.faces, laid.owners))
        self.assertEqual(told, sorted([
            ("('a', 'c')", Fraction(1, 4)), ("('b', 'c')", Fraction(1, 4)), ("('b', 'd')", Fraction(1, 4)),
            ("('a', None)", Fraction(3, 4)), ("('b', None)", HALF), ("(None, 'c')", HALF),
            ("(None, 'd')", Fraction(3, 4))]))

    def test_maps_are_unchanged(self):
        one, other = row_map("ab"), row_map("cd", HALF)
        before = (one.shown(), other.shown(), one.borders(), other.borders(), list(one.owners))
        laid = Overlay(one, other)
        laid.areas(), laid.shares("a"), laid.unlike(), alike(laid), same_map(one, other), only(one, ["a"])
        self.assertEqual((one.shown(), other.shown(), one.borders(), other.borders(), list(one.owners)), before)

    def test_areas(self):
        self.assertEqual(moved().areas(), {("a", "c"): (1, 2), ("b", "c"): (1, 2), ("b", "d"): (1, 2),
                                           ("a", None): (1, 2), (None, "d"): (1, 2)})
        self.assertEqual(Overlay(Map({}), Map({})).areas(), {})

    def test_areas_leave_out_what_neither_has(self):
        laid = Overlay(Map({"sea": [box_ring(0, 0, 4, 4), box_ring(1, 1, 2, 2)]}), Map({"a": [box_ring(0, 0, 1, 4)]}))
        self.assertIn((None, None), laid.owners)
        self.assertEqual(laid.areas(), {("sea", "a"): (4, 1), ("sea", None): (8, 1)})

    def test_areas_with_gaps(self):
        self.assertEqual(gapped().areas(), {("sea", "left"): (6, 1), ("sea", "right"): (6, 1), (None, "left"): (2, 1),
                                            (None, "right"): (2, 1)})

    def test_areas_of_maps_apart(self):
        laid = Overlay(row_map("a"), row_map("b", 9))
        self.assertEqual(laid.areas(), {("a", None): (1, 1), (None, "b"): (1, 1)})

    def test_areas_add_up_faces(self):
        one = Map({"a": [box_ring(0, 0, 1, 1), box_ring(5, 0, 1, 1)]})
        self.assertEqual(Overlay(one, Map({"b": [box_ring(0, 0, 9, 1)]})).areas(),
                         {("a", "b"): (2, 1), (None, "b"): (7, 1)})

    def test_both(self):
        laid = moved()
        self.assertEqual(laid.both("a", "c"), (1, 2))
        self.assertEqual(laid.both("a", "d"), (0, 1))
        self.assertEqual(laid.both("x", "y"), (0, 1))
        self.assertEqual(laid.both("a", None), (1, 2))
        self.assertEqual(laid.both(None, "d"), (1, 2))

    def test_shares(self):
        laid = moved()
        self.assertEqual(laid.shares("a"), ((None, (1, 2)), ("c", (1, 2))))
        self.assertEqual(laid.shares("b"), (("c", (1, 2)), ("d", (1, 2))))
        wide = Overlay(Map({"a": [box_ring(0, 0, 3, 2)]}), row_map("zyx", HALF))
        found = wide.shares("a")
        self.assertEqual(found, ((None, (7, 12)), ("x", (1, 12)), ("y", (1, 6)), ("z", (1, 6))))
        self.assertEqual([one.__class__ for one in (found, found[0])], [tuple] * 2)

    def test_shares_are_of_a_region_alone(self):
        self.assertEqual(gapped().shares("sea"), (("left", (1, 2)), ("right", (1, 2))))
        self.assertEqual(Overlay(Map({"a": []}), row_map("b")).shares("a"), ())

    def test_shares_refuse_what_is_not_there(self):
        for name in ("c", "", None):
            refused_unchanged(self, NoSuch, moved().shares, name)
            refused_unchanged(self, NoSuch, lambda name: greatest_share(moved(), name), name)

    def test_carried(self):
        found = unchanged(self, moved().carried, {"a": (3, 1), "b": (1, 3)})
        self.assertEqual(found, {None: (3, 2), "c": (5, 3), "d": (1, 6)})
        self.assertEqual(moved().carried({"b": (4, 1)}), {"c": (2, 1), "d": (2, 1)})
        self.assertEqual(moved().carried({}), {})
        self.assertEqual(moved().carried({"a": (0, 1)}), {None: (0, 1), "c": (0, 1)})

    def test_carried_refuses_what_is_not_there(self):
        refused_unchanged(self, NoSuch, moved().carried, {"a": (3, 1), "c": (1, 1)})
        refused_unchanged(self, BadPart, moved().carried, {"a": (3, 0)})

    def test_unlike(self):
        self.assertEqual(moved().unlike(), (5, 2))
        self.assertEqual(Overlay(row_map("ab"), row_map("ab", HALF)).unlike(), (3, 2))
        self.assertEqual(Overlay(row_map("ab"), row_map("ab")).unlike(), (0, 1))
        self.assertEqual(Overlay(row_map("ab"), row_map("ac")).unlike(), (1, 1))
        self.assertEqual(gapped().unlike(), (16, 1))
        self.assertEqual(Overlay(Map({}), Map({})).unlike(), (0, 1))


class Compared(unittest.TestCase):
    def test_greatest_share(self):
        self.assertEqual(greatest_share(moved(), "b"), "c")
        laid = Overlay(row_map("a"), Map({"x": [box_ring(0, 0, Fraction(1, 3), 1)],
                                          "y": [box_ring(Fraction(1, 3), 0, Fraction(2, 3), 1)]}))
        self.assertEqual(greatest_share(laid, "a"), "y")

    def test_greatest_share_of_regions_alone(self):
        laid = Overlay(Map({"a": [box_ring(0, 0, 9, 1)]}), row_map("zy"))
        self.assertEqual(greatest_share(laid, "a"), "y")
        self.assertIsNone(greatest_share(Overlay(row_map("a"), row_map("b", 9)), "a"))
        self.assertIsNone(greatest_share(Overlay(Map({"a": []}), row_map("b")), "a"))

    def test_alike(self):
        self.assertEqual(alike(moved()), ((5, 2), (3, 2)))
        self.assertEqual(alike(gapped()), ((16, 1), (12, 1)))
        self.assertEqual(alike(Overlay(row_map("a"), row_map("b", 9))), ((2, 1), (0, 1)))
        self.assertEqual(alike(Overlay(Map({}), Map({}))), ((0, 1), (0, 1)))
        self.assertIs(alike(moved()).__class__, tuple)

    def test_same_map(self):
        self.assertIs(same_map(row_map("ab"), row_map("ab")), True)
        self.assertIs(same_map(row_map("ab"), row_map("ba")), False)
        self.assertIs(same_map(row_map("ab"), row_map("a")), False)
        self.assertIs(same_map(row_map("a"), row_map("ab")), False)
        self.assertIs(same_map(row_map("ab"), row_map("ab", Fraction(1, 999))), False)
        self.assertIs(same_map(Map({}), Map({})), True)

    def test_same_map_by_other_rings(self):
        one = Map({"a": [box_ring(0, 0, 2, 1)], "b": []})
        other = Map({"a": [box_ring(1, 0, 1, 1), box_ring(0, 0, 1, 1)[::-1]]})
        self.assertIs(same_map(one, other), True)

    def test_check_names(self):
        made = row_map("abc")
        self.assertEqual(unchanged(self, lambda names: check_names(made, names), ["c", "a", "c"]), ("a", "c"))
        self.assertEqual(check_names(made, ("b",)), ("b",))
        self.assertEqual(check_names(made, []), ())
        for names in (["d"], ["a", ""], ("a", "ab")):
            refused_unchanged(self, BadSize, lambda names: check_names(made, names), names)

    def test_only(self):
        made = row_map("abc")
        found = unchanged(self, lambda names: only(made, names), ["c", "a", "a"])
        self.assertEqual(found.shown(), (("a", (box_ring(0, 0, 1, 1),)), ("c", (box_ring(2, 0, 1, 1),))))
        self.assertEqual(made.names(), ("a", "b", "c"))
        self.assertEqual(only(made, ()).names(), ())
        refused_unchanged(self, BadSize, lambda names: only(made, names), ["a", "x"])


if __name__ == "__main__":
    unittest.main()
