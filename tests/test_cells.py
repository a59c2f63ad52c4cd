import random
import unittest
from fractions import Fraction

from borderwright.cells import (
    BARE, beside, check_rows, fits_in, flipped, grown, lots_of, map_of, rows_of, square_face,
)
from borderwright.errors import BadText
from borderwright.maps import Map, all_sizes
from borderwright.rings import way_round
from helper import (
    box_ring, keeps_map, part_of, refused_unchanged, ring, spot, tuples_all_through, unchanged,
)

HALF = Fraction(1, 2)
BAD_ROWS = ([], (), [""], ["", ""], ["", "a"], ["ab", "a"], ["a", "ab"], ["ab", "ab", ""], ["ab", "ab", "abc"])


class Rows(unittest.TestCase):
    def test_a_dot_is_bare(self):
        self.assertEqual(BARE, ".")

    def test_check_rows(self):
        found = unchanged(self, check_rows, ["ab.", "..c"])
        self.assertEqual(found, ("ab.", "..c"))
        tuples_all_through(self, found)
        self.assertEqual(check_rows(("a",)), ("a",))

    def test_bad_rows_are_refused(self):
        for rows in BAD_ROWS:
            for work in (check_rows, map_of, grown, lots_of, flipped):
                refused_unchanged(self, BadText, work, rows)

    def test_flipped(self):
        found = unchanged(self, flipped, ["abc", "d.."])
        self.assertEqual(found, ("ad", "b.", "c."))
        tuples_all_through(self, found)
        self.assertEqual(flipped(("abc",)), ("a", "b", "c"))
        self.assertEqual(flipped(found), ("abc", "d.."))


class Maps(unittest.TestCase):
    def test_square_face(self):
        found = square_face(2, -3)
        self.assertEqual(found, (box_ring(2, -3, 1, 1), ()))
        tuples_all_through(self, found)

    def test_map_of(self):
        found = unchanged(self, map_of, ["aab", "a.b"])
        self.assertEqual(found.shown(), (("a", (ring((0, 0), (2, 0), (2, 1), (1, 1), (1, 2), (0, 2)),)),
                                         ("b", (box_ring(2, 0, 1, 2),))))
        self.assertEqual(found.neighbours(), (("a", "b"),))

    def test_dots_are_no_region(self):
        self.assertEqual(map_of(["...", "..."]).names(), ())
        self.assertEqual(map_of([".a."]).shown(), (("a", (box_ring(1, 0, 1, 1),)),))

    def test_holes(self):
        found = map_of(["aaa", "a.a", "aba", "aaa"])
        self.assertEqual(found.rings("a"), (box_ring(0, 0, 3, 4), ring((1, 1), (1, 3), (2, 3), (2, 1))))
        self.assertEqual(found.gaps(), (box_ring(1, 1, 1, 1),))

    def test_letters_apart_and_meeting_at_a_corner(self):
        found = map_of(["a.a", ".a."])
        self.assertEqual(found.rings("a"), (box_ring(0, 0, 1, 1), box_ring(1, 1, 1, 1), box_ring(2, 0, 1, 1)))

    def test_rows_of(self):
        made = map_of(["ab.", "cba"])
        found = keeps_map(self, made, rows_of, 3, 2)
        self.assertEqual(found, ("ab.", "cba"))
        tuples_all_through(self, found)

    def test_rows_of_more_and_fewer_squares(self):
        made = map_of(["ab.", "cba"])
        self.assertEqual(rows_of(made, 4, 3), ("ab..", "cba.", "...."))
        self.assertEqual(rows_of(made, 2, 1), ("ab",))
        self.assertEqual(rows_of(made, 2, 0), ())
        self.assertEqual(rows_of(made, 0, 2), ("", ""))

    def test_rows_of_a_map_beside_the_squares(self):
        made = Map({"a": [box_ring(Fraction(1, 4), 0, 1, 1)], "b": [box_ring(Fraction(5, 4), 0, Fraction(1, 8), 1)]})
        self.assertEqual(rows_of(made, 2, 1), ("a.",))

    def test_rows_of_middles_on_an_edge(self):
        made = Map({"a": [box_ring(0, 0, HALF, 1)], "b": [box_ring(HALF, 0, 1, 1)]})
        self.assertEqual(rows_of(made, 2, 1), ("..",))
        self.assertEqual(rows_of(Map({"a": [ring((0, 0), (2, 0), (0, 2))]}), 2, 2), ("a.", ".."))

    def test_rows_of_map_of_is_the_rows(self):
        rand = random.Random(7)
        for _ in range(40):
            wide, high = rand.randint(1, 6), rand.randint(1, 6)
            rows = tuple("".join(rand.choice("ab.c") for _ in range(wide)) for _ in range(high))
            made = map_of(rows)
            self.assertEqual(rows_of(made, wide, high), rows)
            text = "".join(rows)
            names = sorted(set(text) - {"."})
            self.assertEqual(all_sizes(made), tuple((name, part_of(text.count(name))) for name in names))
            self.assertIs(fits_in(made, wide, high), True)

    def test_fits_in(self):
        made = map_of(["...", ".ab", "..."])
        self.assertIs(keeps_map(self, made, fits_in, 9, 9), True)
        self.assertIs(fits_in(made, 3, 2), True)
        self.assertIs(fits_in(made, 2, 2), False)
        self.assertIs(fits_in(made, 3, 1), False)

    def test_fits_in_of_what_is_below_or_a_little_beyond(self):
        for x, y, found in ((0, 0, True), (-HALF, 0, False), (0, -HALF, False), (HALF, 0, False), (0, HALF, False)):
            self.assertIs(fits_in(Map({"a": [box_ring(x, y, 2, 2)]}), 2, 2), found)

    def test_fits_in_of_no_regions(self):
        self.assertIs(fits_in(Map({}), 0, 0), True)
        self.assertIs(fits_in(Map({"a": []}), 1, 1), True)


class Squares(unittest.TestCase):
    def test_beside(self):
        found = beside(1, 1, 3, 3)
        self.assertEqual(found, [(0, 1), (1, 0), (1, 2), (2, 1)])
        self.assertEqual([one.__class__ for one in (found, found[0])], [list, tuple])

    def test_beside_at_corners_and_edges(self):
        self.assertEqual(beside(0, 0, 3, 2), [(0, 1), (1, 0)])
        self.assertEqual(beside(2, 0, 3, 2), [(1, 0), (2, 1)])
        self.assertEqual(beside(0, 1, 3, 2), [(0, 0), (1, 1)])
        self.assertEqual(beside(2, 1, 3, 2), [(1, 1), (2, 0)])
        self.assertEqual(beside(1, 0, 3, 2), [(0, 0), (1, 1), (2, 0)])
        self.assertEqual(beside(0, 1, 3, 3), [(0, 0), (0, 2), (1, 1)])
        self.assertEqual(beside(0, 0, 1, 1), [])

    def test_grown(self):
        found = unchanged(self, grown, ["...", ".a.", "...", "..."])
        self.assertEqual(found, (".a.", "aaa", ".a.", "..."))
        tuples_all_through(self, found)

    def test_grown_takes_the_first_letter(self):
        self.assertEqual(grown(["b.a"]), ("baa",))
        self.assertEqual(grown([".c.", "b.a", ".d."]), ("bca", "baa", "bda"))
        self.assertEqual(grown(["b", ".", "a"]), ("b", "a", "a"))
        self.assertEqual(grown(["a", ".", "b"]), ("a", "a", "b"))

    def test_grown_by_one_square_and_letters_stay(self):
        self.assertEqual(grown(["a...", "..b."]), ("aab.", "abbb"))
        self.assertEqual(grown(["ab", "ba"]), ("ab", "ba"))
        self.assertEqual(grown(["..", ".."]), ("..", ".."))

    def test_lots_of(self):
        found = unchanged(self, lots_of, ["aab", "bab", "bba"])
        self.assertEqual(found, (("a", ((0, 0), (1, 0), (1, 1))), ("b", ((2, 0), (2, 1))),
                                 ("b", ((0, 1), (0, 2), (1, 2))), ("a", ((2, 2),))))
        tuples_all_through(self, found)

    def test_dots_are_no_lot(self):
        found = unchanged(self, lots_of, ["a..", ".a."])
        self.assertEqual(found, (("a", ((0, 0),)), ("a", ((1, 1),))))
        for rows in (["."], ["...", "..."], (".", ".")):
            self.assertEqual(lots_of(rows), ())

    def test_dots_part_lots_and_lots_go_round_dots(self):
        self.assertEqual(lots_of(["a.a", "a.a"]), (("a", ((0, 0), (0, 1))), ("a", ((2, 0), (2, 1)))))
        about = ((0, 0), (0, 1), (0, 2), (1, 0), (1, 2), (2, 0), (2, 1), (2, 2))
        self.assertEqual(lots_of(["aaa", "a.a", "aaa"]), (("a", about),))

    def test_lots_hang_together_by_sides_alone(self):
        self.assertEqual(lots_of(["ab", "ba"]), (
            ("a", ((0, 0),)), ("b", ((1, 0),)), ("b", ((0, 1),)), ("a", ((1, 1),))))

    def test_lots_stand_in_order_of_first_squares_row_by_row(self):
        # The lot of b has (0, 1), which is ahead of (1, 0) by x and y, yet comes behind it row by row.
        self.assertEqual(lots_of([".a", "bb"]), (("a", ((1, 0),)), ("b", ((0, 1), (1, 1)))))

    def test_lots_have_all_squares_of_letters_once(self):
        rand = random.Random(8)
        for _ in range(30):
            rows = ["".join(rand.choice("ab.") for _ in range(5)) for _ in range(4)]
            found = lots_of(rows)
            squares = [(x, y) for x in range(5) for y in range(4) if rows[y][x] != BARE]
            self.assertEqual(sorted(one for _, lot in found for one in lot), squares)
            firsts = [min((y, x) for x, y in lot) for _, lot in found]
            self.assertEqual(firsts, sorted(firsts))
            homes = {one: number for number, (_, lot) in enumerate(found) for one in lot}
            for letter, lot in found:
                self.assertEqual(lot, tuple(sorted(lot)))
                self.assertEqual({rows[y][x] for x, y in lot}, {letter})
                for x, y in lot:
                    for aside, up in beside(x, y, 5, 4):
                        if rows[up][aside] == letter:
                            self.assertEqual(homes[(aside, up)], homes[(x, y)])
            for name in "ab":
                if name in "".join(rows):
                    lots = [lot for letter, lot in found if letter == name]
                    rings = [row for row in map_of(rows).rings(name) if way_round(row) > 0]
                    self.assertEqual(len(rings), len(lots))

    def test_rows_are_the_lowest_first(self):
        self.assertEqual(map_of(["a", "b"]).rings("b"), (box_ring(0, 1, 1, 1),))
        self.assertEqual(map_of(["ab"]).at(spot(1, HALF)), ("a", "b"))


if __name__ == "__main__":
    unittest.main()
