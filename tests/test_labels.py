import itertools
import random
import unittest
from fractions import Fraction

from borderwright.cells import map_of
from borderwright.errors import BadPaper, BadPart, BadPoint, BadSize, NoSuch
from borderwright.labels import (
    Label, bound_of, check_labels, crosses_in, fits, good_labels, lots_for, may_stand, middle_of, most_labels,
)
from borderwright.maps import Map
from borderwright.overlays import Overlay
from helper import (
    box_ring, keeps_map, map_state, number, part_of, refused_keeps_map, refused_unchanged, ring, spot, step,
    tuples_all_through, unchanged,
)

HALF = Fraction(1, 2)


def label(name, x, y, wide=1, high=1):
    """Return the label of a name by its lowest corner."""
    return Label(name, spot(x, y), part_of(wide), part_of(high))


def some_labels(rand, many):
    """Return some labels."""
    return [label(rand.choice("abcde"), Fraction(rand.randint(0, 8), 2), Fraction(rand.randint(0, 8), 2),
                  Fraction(rand.randint(1, 4), 2), Fraction(rand.randint(1, 4), 2)) for _ in range(many)]


def stand_together(labels, row):
    """Tell whether labels stand together, looked at by their boxes' sizes in common."""
    for one, other in itertools.combinations([labels[place] for place in row], 2):
        both = Overlay(Map({"x": [one.ring()]}), Map({"x": [other.ring()]})).both("x", "x")
        if one.name == other.name or number(both) > 0:
            return False
    return True


def greatest_lots(labels):
    """Return all the greatest rows of places at which labels stand together, in order."""
    for many in range(len(labels), -1, -1):
        found = [row for row in itertools.combinations(range(len(labels)), many) if stand_together(labels, row)]
        if found:
            return found


class Labels(unittest.TestCase):
    def test_fields(self):
        one = Label("a", spot(1, HALF), (3, 2), (1, 3))
        self.assertEqual((one.name, one.spot, one.wide, one.high), ("a", spot(1, HALF), (3, 2), (1, 3)))
        self.assertEqual(one.shown(), ("a", spot(1, HALF), (3, 2), (1, 3)))
        tuples_all_through(self, one.shown())

    def test_a_side_of_nought_or_below_is_refused(self):
        for wide, high in (((0, 1), (1, 1)), ((1, 1), (0, 1)), ((-1, 2), (1, 1)), ((1, 1), (-3, 1)), ((0, 1), (0, 1))):
            refused_unchanged(self, BadSize, Label, "a", spot(0, 0), wide, high)

    def test_ring(self):
        one = label("a", -1, HALF, 3, Fraction(1, 3))
        self.assertEqual(one.ring(), ring((-1, HALF), (2, HALF), (2, Fraction(5, 6)), (-1, Fraction(5, 6))))
        tuples_all_through(self, one.ring())
        self.assertEqual(middle_of(one.ring()), spot(HALF, Fraction(2, 3)))
        self.assertRaises(BadPart, Label("a", ((0, 0), (0, 1)), (1, 1), (1, 1)).ring)

    def test_meets(self):
        one = label("a", 0, 0, 2, 2)
        for x, y, wide, high, found in ((1, 1, 2, 2, True), (HALF, HALF, 1, 1, True), (-1, -1, 9, 9, True),
                                        (-1, HALF, 9, 1, True), (0, 0, 2, 2, True), (2 - Fraction(1, 9), 0, 1, 1, True),
                                        (2, 0, 1, 2, False), (0, 2, 2, 1, False), (-1, 0, 1, 1, False),
                                        (2, 2, 1, 1, False), (-1, 2, 1, 1, False), (5, 5, 1, 1, False),
                                        (0, 3, 2, 1, False), (3, 0, 1, 2, False)):
            other = label("b", x, y, wide, high)
            self.assertIs(one.meets(other), found)
            self.assertIs(other.meets(one), found)

    def test_methods_change_nothing(self):
        one, other = label("a", 0, 0, 2, 2), label("b", 1, 1)
        one.ring(), one.meets(other), one.shown()
        self.assertEqual((one.shown(), other.shown()), (label("a", 0, 0, 2, 2).shown(), label("b", 1, 1).shown()))


class Fits(unittest.TestCase):
    def test_within_and_on_edges(self):
        made = map_of(["aaab", "aaab"])
        self.assertIs(keeps_map(self, made, lambda one: fits(one, label("a", HALF, HALF))), True)
        for x, y, wide, high in ((0, 0, 3, 2), (0, 0, 1, 1), (2, 1, 1, 1), (0, HALF, 3, 1), (1, 0, 2, 2)):
            self.assertIs(fits(made, label("a", x, y, wide, high)), True)

    def test_over_a_border_or_outside(self):
        made = map_of(["aaab", "aaab"])
        for x, y, wide, high in ((2, 0, 2, 1), (0, 1, 1, 2), (-HALF, 0, 1, 1), (0, 0, 9, 9), (3, 0, 1, 1), (3, 0, 1, 2),
                                 (7, 7, 1, 1), (-1, -1, 1, 1), (0, 0, 3 + Fraction(1, 99), 2), (-1, HALF, 9, HALF)):
            self.assertIs(fits(made, label("a", x, y, wide, high)), False)

    def test_over_a_gap_or_another_region_within(self):
        for rows in (["aaa", "a.a", "aaa"], ["aaa", "aba", "aaa"]):
            made = map_of(rows)
            for x, y, wide, high, found in ((0, 0, 3, 3, False), (0, 0, 3, 1, True), (HALF, HALF, 1, 1, False),
                                            (1, 1, 1, 1, False), (1 + HALF / 2, 1 + HALF / 2, HALF, HALF, False),
                                            (0, 0, 1, 3, True), (0, 1, 3, 1, False)):
                self.assertIs(fits(made, label("a", x, y, wide, high)), found)

    def test_over_a_corner_that_goes_in(self):
        made = map_of(["aa", "a."])
        self.assertIs(fits(made, label("a", 0, 0, 2, 1)), True)
        self.assertIs(fits(made, label("a", 0, 0, 1, 2)), True)
        self.assertIs(fits(made, label("a", HALF, HALF)), False)
        wedge = Map({"a": [ring((0, 0), (8, 0), (8, 8), (4, 4), (0, 8))]})
        self.assertIs(fits(wedge, label("a", 2, 0, 4, 4)), True)
        self.assertIs(fits(wedge, label("a", 2, 1, 4, 4)), False)
        self.assertIs(fits(wedge, label("a", 3, 0, 2, 4 + Fraction(1, 9))), False)

    def test_a_region_in_two_parts(self):
        made = map_of(["a.a", "a.a"])
        self.assertIs(fits(made, label("a", 2, 0, 1, 2)), True)
        self.assertIs(fits(made, label("a", 0, 0, 3, 1)), False)
        beside = Map({"a": [box_ring(0, 0, 1, 1), box_ring(1, 0, 1, 1)]})
        self.assertIs(fits(beside, label("a", 0, 0)), True)
        self.assertIs(fits(beside, label("a", 0, 0, 2, 1)), False)
        self.assertIs(fits(beside, label("a", HALF, 0)), False)

    def test_slanted_edges(self):
        made = Map({"a": [ring((0, 0), (4, 0), (0, 4))]})
        for x, y, wide, high, found in ((0, 0, 2, 2, True), (1, 1, 1, 1, True), (1, 1, 1, 1 + Fraction(1, 7), False),
                                        (3, 3, 1, 1, False), (2, 2, 1, 1, False)):
            self.assertIs(fits(made, label("a", x, y, wide, high)), found)

    def test_a_name_that_is_not_there_is_refused(self):
        made = map_of(["a"])
        for one in (label("b", 0, 0), label("", 5, 5)):
            refused_keeps_map(self, NoSuch, made, lambda found: fits(found, one))
            self.assertRaises(NoSuch, good_labels, made, [label("a", 0, 0), one])
            self.assertRaises(NoSuch, check_labels, made, [one], [0])
        self.assertIs(fits(Map({"b": []}), label("b", 0, 0)), False)

    def test_against_sizes_in_common(self):
        rand = random.Random(16)
        for _ in range(15):
            made = map_of(["".join(rand.choice("aab.") for _ in range(4)) for _ in range(4)])
            for one in some_labels(rand, 6):
                if one.name in made.names():
                    laid = Overlay(Map({"box": [one.ring()]}), made)
                    self.assertIs(fits(made, one), laid.shares("box") == ((one.name, (1, 1)),))

    def test_crosses_in(self):
        row = box_ring(0, 0, 4, 4)
        for one, found in (((-1, 2, 5, 2), True), ((-1, -1, 9, 9), True), ((2, 2, 9, 9), True), ((1, 1, 2, 3), True),
                           ((0, 2, 4, 2), True), ((0, 0, 4, 4), True), ((0, 2, 2, 4), True), ((4, 2, 3, 2), True),
                           ((0, 0, 4, 0), False), ((-1, 0, 5, 0), False), ((4, 1, 4, 3), False), ((4, 2, 9, 2), False),
                           ((3, 5, 5, 3), False), ((5, 5, 6, 6), False), ((0, 4, -3, 4), False), ((4, 4, 9, 9), False)):
            for there in (step(one[:2], one[2:]), step(one[2:], one[:2])):
                self.assertIs(unchanged(self, crosses_in, row, there), found)

    def test_crosses_in_refuses_a_step_to_nowhere(self):
        refused_unchanged(self, BadPoint, crosses_in, box_ring(0, 0, 4, 4), step((9, 9), (9, 9)))

    def test_good_labels(self):
        made = map_of(["aab"])
        labels = [label("b", 2, 0), label("b", 0, 0), label("a", 1, 0), label("a", 0, 0, 2, 1), label("a", 1, 0)]
        found = keeps_map(self, made, lambda one: good_labels(one, labels))
        self.assertIs(found.__class__, tuple)
        self.assertEqual([one.shown() for one in found], [labels[place].shown() for place in (0, 2, 3, 4)])
        self.assertEqual(good_labels(made, []), ())


class Most(unittest.TestCase):
    def test_most_labels(self):
        labels = [label("a", 0, 0, 3, 1), label("b", 0, 0), label("c", 1, 0), label("d", 2, 0)]
        found = most_labels(labels)
        self.assertEqual(found, (1, 2, 3))
        tuples_all_through(self, found)
        self.assertEqual(most_labels([]), ())
        self.assertEqual(most_labels(labels[:1]), (0,))

    def test_names_once_each(self):
        self.assertEqual(most_labels([label("a", 0, 0), label("a", 5, 5), label("b", 9, 9)]), (0, 2))

    def test_the_first_of_such(self):
        self.assertEqual(most_labels([label("a", 0, 0), label("b", HALF, 0), label("c", 1, 0)]), (0, 2))
        self.assertEqual(most_labels([label("a", 0, 0), label("b", HALF, 0)]), (0,))

    def test_against_all_lots(self):
        rand = random.Random(17)
        for many in (1, 2, 3, 5, 6, 7, 7, 7):
            for _ in range(4):
                labels = some_labels(rand, many)
                before = [one.shown() for one in labels]
                rows = greatest_lots(labels)
                self.assertEqual(most_labels(labels), rows[0])
                lots = lots_for(labels)
                self.assertGreaterEqual(bound_of(labels, lots), len(rows[0]))
                self.assertEqual([one.shown() for one in labels], before)

    def test_many(self):
        labels = [label(f"{k}", 3 * (k // 5) + Fraction(k % 5, 3), 7 * (k // 5)) for k in range(60)]
        self.assertEqual(len(most_labels(labels)), 24)

    def test_may_stand(self):
        labels = [label("a", 0, 0, 2, 2), label("b", 1, 1, 2, 2), label("a", 9, 9), label("c", 2, 0)]
        for row, place, found in (((), 0, True), ((0,), 1, False), ((0,), 2, False), ((0,), 3, True), ((2, 3), 1, True),
                                  ((3, 0), 1, False), ((1, 2), 3, True), ((1,), 1, False), ([0, 2], 3, True)):
            self.assertIs(unchanged(self, lambda one: may_stand(labels, one, place), row), found)


class Papers(unittest.TestCase):
    MADE = map_of(["aaab", "aaab"])
    LABELS = [label("a", 0, 0), label("b", 3, 0), label("a", 1, 1), label("b", 2, 0), label("a", 2, 0, 2, 1)]

    def test_check_labels(self):
        before = map_state(self.MADE)
        for row in ([0, 1], (1, 2), [2, 1], [0], []):
            self.assertEqual(unchanged(self, lambda one: check_labels(self.MADE, self.LABELS, one), row), len(row))
        self.assertEqual(map_state(self.MADE), before)

    def test_bad_rows_of_places_are_refused(self):
        for row in ([5], [-1], [0, 9], [0, 0], [0, 1, 0], [0, 2], [3], [0, 3], [4], [1, 4]):
            refused_unchanged(self, BadPaper, lambda one: check_labels(self.MADE, self.LABELS, one), row)
        over = [label("a", 0, 0, 2, 2), label("b", 3, 0), label("c", 1, 1)]
        made = Map({"a": [box_ring(0, 0, 3, 2)], "b": [box_ring(3, 0, 1, 2)], "c": []})
        self.assertRaises(BadPaper, check_labels, made, over, [0, 2])

    def test_labels_that_meet_are_refused(self):
        # Labels that fit can meet only where they have one name.
        labels = [label("a", 0, 0, 2, 1), label("a", 1, 0, 2, 1)]
        self.assertRaises(BadPaper, check_labels, self.MADE, labels, [0, 1])
        self.assertEqual(check_labels(self.MADE, labels, [1]), 1)

    def test_check_labels_against_trying_all(self):
        rand = random.Random(18)
        for _ in range(6):
            made = map_of(["".join(rand.choice("abc") for _ in range(3)) for _ in range(3)])
            labels = [one for one in some_labels(rand, 9) if one.name in made.names()]
            labels += [label(name, rand.randint(0, 2), rand.randint(0, 2)) for name in made.names()]
            for many in range(3):
                for row in itertools.permutations(range(-1, len(labels) + 1), many):
                    there = all(0 <= place < len(labels) for place in row)
                    if there and all(fits(made, labels[place]) for place in row) and stand_together(labels, row):
                        self.assertEqual(check_labels(made, labels, row), many)
                    else:
                        self.assertRaises(BadPaper, check_labels, made, labels, row)

    def test_bound_of(self):
        labels = [label("a", 0, 0), label("b", HALF, 0), label("c", 1, 0), label("a", 9, 9)]
        for lots, many in (([[0, 1], [2], [3]], 3), (((1, 2), (0, 3)), 2), ([[0], [1], [2], [3]], 4),
                           ([[3, 0], [2, 1]], 2)):
            self.assertEqual(unchanged(self, lambda one: bound_of(labels, one), lots), many)
        self.assertEqual(bound_of([], []), 0)

    def test_bad_lots_are_refused(self):
        labels = [label("a", 0, 0), label("b", HALF, 0), label("c", 1, 0), label("a", 9, 9)]
        for lots in ([[0, 1], [2]], [[0, 1], [2], [3], [3]], [[0, 1], [1, 2], [3]], [[0, 1, 1], [2], [3]], [],
                     [[0, 1], [2], [3], [4]], [[0, 1], [2], [-1]], [[0, 1, 2], [3]], [[0, 2], [1], [3]],
                     [[0, 1], [2, 3]], [[0, 1, 3], [2]]):
            refused_unchanged(self, BadPaper, lambda one: bound_of(labels, one), lots)

    def test_no_bound_is_below_what_can_stand(self):
        rand = random.Random(19)
        for _ in range(12):
            labels = some_labels(rand, 4)
            most = len(greatest_lots(labels)[0])
            for homes in itertools.product(range(4), repeat=4):
                lots = [[place for place in range(4) if homes[place] == number] for number in sorted(set(homes))]
                apart = all(not stand_together(labels, pair) for lot in lots for pair in itertools.combinations(lot, 2))
                if apart:
                    self.assertEqual(bound_of(labels, lots), len(lots))
                    self.assertGreaterEqual(len(lots), most)
                else:
                    self.assertRaises(BadPaper, bound_of, labels, lots)

    def test_lots_for(self):
        labels = [label("a", 0, 0), label("b", 1, 0), label("c", HALF, 0), label("a", 9, 9), label("b", 9, 9)]
        found = lots_for(labels)
        self.assertEqual(found, ((0, 2), (1, 4), (3,)))
        tuples_all_through(self, found)
        self.assertEqual(bound_of(labels, found), 3)
        self.assertEqual(lots_for([]), ())


if __name__ == "__main__":
    unittest.main()
