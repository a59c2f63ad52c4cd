"""What is promised over the whole program, whichever of its files does the work."""

import itertools
import random
import unittest
from fractions import Fraction

from borderwright.boxes import Fours
from borderwright.cells import map_of
from borderwright.colours import all_neighbours, check_colours, check_least, coloured, fewest, greedy, links_of
from borderwright.desks import Desk, lines_of
from borderwright.districts import all_cuts, check_cut, evenest, swapped, uneven
from borderwright.errors import BadMap, BadPaper, BadSize
from borderwright.faces import face_area, inner_point
from borderwright.labels import Label, bound_of, check_labels, fits, lots_for, most_labels
from borderwright.maps import Map
from borderwright.merges import cut, filled_gaps, merged
from borderwright.overlays import Overlay, alike, same_map
from borderwright.rings import area, both_bulging, to_left
from borderwright.roads import check_way, fars, net_of, way
from borderwright.shapes import Change, moved_by, quarter_turned
from borderwright.simples import simpler
from borderwright.triangles import check_threes, ears
from helper import keeps_map, map_state, number, pair, part_of, ring, spot, tuples_all_through


def some_maps(seed, many, wide=4, high=4, letters="abc."):
    """Return some maps of squares, with gaps, holes and regions in several parts among them."""
    rand = random.Random(seed)
    found = [map_of(["aaa", "a.a", "abb"]), map_of(["ab", "ba"]), map_of(["."])]
    for _ in range(many):
        found.append(map_of(["".join(rand.choice(letters) for _ in range(wide))
                             for _ in range(rand.randint(1, high))]))
    return found


def size_of(row):
    """Return how great a ring is, without the program."""
    rows = [pair(one) for one in row]
    return abs(sum(a * d - b * c for (a, b), (c, d) in zip(rows, rows[1:] + rows[:1]))) / 2


def is_within(row, x, y):
    """Tell whether a point lies within a ring, by how often a way straight up from it crosses; None on its edge."""
    inside = False
    rows = [pair(one) for one in row]
    for (a, b), (c, d) in zip(rows, rows[1:] + rows[:1]):
        on_line = (c - a) * (y - b) == (d - b) * (x - a)
        if on_line and min(a, c) <= x <= max(a, c) and min(b, d) <= y <= max(b, d):
            return None
        if min(a, c) <= x < max(a, c):
            inside = inside != (b + (d - b) * (x - a) / (c - a) > y)
    return inside


def owners_of(made, x, y):
    """Return the regions that a point lies in by its rings alone, None where it lies on an edge."""
    found = []
    for name, rings in made.shown():
        sides = [is_within(row, x, y) for row in rings]
        if None in sides:
            return None
        if sides.count(True) % 2 == 1:
            found.append(name)
    return found


def gap_size(made):
    """Return how great all gaps are, what lies within their holes aside."""
    return sum(number(face_area(face)) for face, owner in zip(made.faces, made.owners) if owner is None)


class Maps(unittest.TestCase):
    def see(self, made, seed):
        """See that a map's sizes are exact and that each point off its edges has one region at most."""
        rand = random.Random(seed)
        for name, rings in made.shown():
            # A point that lies in an odd count of rings is the region's: these rings don't cross, so sizes tell it.
            inner = [sum(1 for other in rings if other != row and all(is_within(other, *pair(one)) is not False
                                                                      for one in row)) for row in rings]
            self.assertEqual(number(made.area(name)), sum(
                size_of(row) * (-1) ** depth for row, depth in zip(rings, inner)))
        self.assertEqual(number(made.whole()), sum(number(made.area(name)) for name in made.names()))
        for _ in range(12):
            x, y = Fraction(rand.randint(-10, 50), 9), Fraction(rand.randint(-10, 50), 11)
            mine = owners_of(made, x, y)
            if mine is None:
                self.assertIsNone(made.owner_of(spot(x, y)))
            else:
                self.assertLessEqual(len(mine), 1)
                self.assertEqual(made.owner_of(spot(x, y)), mine[0] if mine else None)
                self.assertEqual(list(made.at(spot(x, y))), mine)

    def test_as_they_are(self):
        for seed, made in enumerate(some_maps(91, 15)):
            self.see(made, seed)

    def test_merged(self):
        for seed, made in enumerate(some_maps(92, 15)):
            for mine in itertools.combinations(made.names(), 2):
                found = keeps_map(self, made, merged, mine, "z")
                self.see(found, seed)
                self.assertEqual((found.whole(), gap_size(found)), (made.whole(), gap_size(made)))
                self.assertEqual(number(found.area("z")), sum(number(made.area(name)) for name in mine))

    def test_cut(self):
        rand = random.Random(93)
        for seed, made in enumerate(some_maps(94, 15)):
            for name in made.names():
                start, end = [spot(Fraction(rand.randint(0, 12), 3), rand.randint(0, 4)) for _ in range(2)]
                try:
                    found = keeps_map(self, made, cut, name, start, end, "l", "r") if start != end else None
                except BadMap:
                    continue
                if found is not None:
                    self.see(found, seed)
                    self.assertEqual((found.whole(), gap_size(found)), (made.whole(), gap_size(made)))
                    self.assertTrue(same_map(merged(found, ["l", "r"], name), made))

    def test_filled(self):
        for seed, made in enumerate(some_maps(95, 20, 5, 5)):
            found = keeps_map(self, made, filled_gaps)
            self.see(found, seed)
            self.assertEqual(found.gaps(), ())
            self.assertEqual(number(found.whole()), number(made.whole()) + gap_size(made))

    def test_simpler(self):
        for seed, made in enumerate(some_maps(96, 10)):
            for most in (0, Fraction(1, 2), 1):
                found = keeps_map(self, made, simpler, part_of(most))
                self.see(found, seed)
                self.assertLessEqual(len(found.gaps()), len(made.gaps()))
                self.assertEqual(found.names(), made.names())
                if most == 0:
                    self.assertTrue(same_map(found, made))

    def test_changed(self):
        rand = random.Random(97)
        for seed, made in enumerate(some_maps(98, 10)):
            go = Change([part_of(Fraction(rand.randint(-5, 5), rand.randint(1, 3))) for _ in range(6)])
            if go.by()[0] == 0:
                continue
            found = keeps_map(self, made, lambda one: go.of_map(one))
            self.see(found, seed)
            by = abs(number(go.by()))
            self.assertEqual(number(found.whole()), number(made.whole()) * by)
            self.assertEqual((gap_size(found), len(found.gaps())), (gap_size(made) * by, len(made.gaps())))
            self.assertEqual(found.neighbours(), made.neighbours())
            self.assertTrue(same_map(go.back().of_map(found), made))

    def test_laid_on_each_other(self):
        rand = random.Random(99)
        maps = some_maps(100, 12)
        for one, other in zip(maps, maps[1:]):
            there = moved_by(part_of(Fraction(rand.randint(-3, 3), 2)), (1, 3)).of_map(
                quarter_turned(rand.randint(0, 3)).of_map(other))
            before = map_state(one), map_state(there)
            sizes = {names: number(size) for names, size in Overlay(one, there).areas().items()}
            self.assertEqual((map_state(one), map_state(there)), before)
            for name in one.names():
                self.assertEqual(sum(size for names, size in sizes.items() if names[0] == name), number(one.area(name)))
            for name in there.names():
                self.assertEqual(sum(size for names, size in sizes.items() if names[1] == name),
                                 number(there.area(name)))
            all_of, shared = [number(size) for size in alike(Overlay(one, there))]
            self.assertEqual(all_of + shared, number(one.whole()) + number(there.whole()))

    def test_one_after_another(self):
        for seed, made in enumerate(some_maps(101, 8)):
            if len(made.names()) < 2:
                continue
            found = filled_gaps(made)
            found = Change([part_of(one) for one in (1, Fraction(1, 2), 0, 0, 1, 1)]).of_map(found)
            found = simpler(found, part_of(Fraction(1, 4)))
            found = merged(found, found.names()[:2], "z")
            self.see(found, seed)
            self.assertEqual(found.gaps(), ())

    def test_desks_keep_maps_that_are_whole(self):
        rand = random.Random(102)
        for seed in range(6):
            desk = Desk()
            desk.do("open 4 4")
            for _ in range(25):
                desk.say(f"paint {rand.randint(0, 4)} {rand.randint(0, 3)} {rand.choice('abc.')}")
                desk.say(f"merge {rand.choice('abc')} {rand.choice('abc')} {rand.choice('abcd')}")
            self.see(desk.map, seed)
            self.assertEqual(number(desk.map.whole()), sum(len(row.replace(".", "")) for row in desk.rows))


class Papers(unittest.TestCase):
    def test_colours(self):
        for made in some_maps(103, 20):
            names, pairs = made.names(), made.neighbours()
            tables = [dict(zip(names, row)) for row in itertools.product(range(3), repeat=len(names))]
            good = [table for table in tables if all(table[one] != table[other] for one, other in pairs)]
            least = min(len(set(table.values())) for table in good)
            self.assertEqual(fewest(names, pairs), least)
            for table in tables:
                for lot in (lot for many in range(4) for lot in itertools.combinations(names, many)):
                    try:
                        self.assertEqual(check_least(names, pairs, table, lot), least)
                    except BadPaper:
                        pass
                    else:
                        self.assertIn(table, good)
            table = coloured(names, pairs, least)
            self.assertEqual(check_colours(names, pairs, table), least)
            self.assertGreaterEqual(check_colours(names, pairs, greedy(names, pairs)), least)
            lot = all_neighbours(names, pairs)
            if len(lot) == least:
                self.assertEqual(check_least(names, pairs, table, lot), least)

    def test_labels(self):
        rand = random.Random(104)
        for made in some_maps(105, 12):
            labels = [Label(rand.choice(made.names()), spot(Fraction(rand.randint(0, 6), 2), rand.randint(0, 2)),
                            part_of(Fraction(rand.randint(1, 3), 2)), (1, 1))
                      for _ in range(rand.randint(0, 5)) if made.names() != ()]
            lots = [row for many in range(len(labels) + 1) for row in itertools.combinations(range(len(labels)), many)]
            good = [row for row in lots if all(
                labels[one].name != labels[other].name and not labels[one].meets(labels[other])
                for one, other in itertools.combinations(row, 2))]
            most = max(len(row) for row in good)
            self.assertEqual(most_labels(labels), [row for row in good if len(row) == most][0])
            for row in lots:
                try:
                    self.assertEqual(check_labels(made, labels, row), len(row))
                except BadPaper:
                    self.assertFalse(row in good and all(fits(made, labels[place]) for place in row))
                else:
                    self.assertTrue(row in good and all(fits(made, labels[place]) for place in row))
            self.assertGreaterEqual(bound_of(labels, lots_for(labels)), most)

    def test_ways(self):
        rand = random.Random(106)
        for made in some_maps(107, 12, 3, 2):
            net = net_of(list(made.borders()))
            for start in list(net)[:3]:
                true = fars(net, start)
                least = {start: Fraction(0)}
                rows, ways = [(start,)], []
                while rows:
                    row = rows.pop()
                    ways.append(row)
                    far = sum(number(net[one][other]) for one, other in zip(row, row[1:]))
                    least[row[-1]] = min(far, least.get(row[-1], far))
                    rows.extend((*row, other) for other in net[row[-1]] if other not in row)
                self.assertEqual({one: number(far) for one, far in true.items()}, least)
                for row in rand.sample(ways, min(len(ways), 60)):
                    table = dict(true)
                    table[rand.choice(list(table))] = part_of(rand.randint(0, 4))
                    for paper in (true, table):
                        try:
                            self.assertEqual(number(check_way(net, row, paper)), least[row[-1]])
                        except BadPaper:
                            pass
                for end in true:
                    self.assertEqual(check_way(net, way(net, start, end), true), true[end])

    def test_cuts(self):
        for made in some_maps(108, 12, 5, 4, "abcde."):
            names, links = made.names(), links_of(made.names(), made.neighbours())
            weights = {name: made.area(name)[0] for name in names}
            for many in range(1, len(names) + 1):
                found = evenest(names, links, weights, many)
                rows = all_cuts(names, links, many)
                if found is None:
                    self.assertEqual(rows, ())
                    continue
                much = uneven(weights, found)
                self.assertEqual(much, min(uneven(weights, row) for row in rows))
                self.assertEqual(check_cut(names, links, weights, found, much), much)
                for row in rows:
                    # No cut in as many lots shows less.
                    self.assertRaises(BadPaper, check_cut, names, links, weights, row, much - 1)
                    after = swapped(links, row, weights)
                    self.assertLessEqual(check_cut(names, links, weights, after, uneven(weights, row)),
                                         uneven(weights, row))

    def test_threes(self):
        hook = ring((0, 0), (4, 0), (4, 2), (1, 1), (0, 3))
        for row in (hook, ring((0, 0), (2, 0), (2, 2), (0, 2)), ring((0, 0), (3, 1), (0, 2)), hook[::-1],
                    ring((0, 0), (4, 0), (1, 1), (0, 4))):
            threes = [three for three in itertools.permutations(to_left(row), 3)
                      if area(three)[0] > 0 and three[0] == min(three)]
            whole = abs(number(area(row)))
            self.assertEqual(check_threes(row, ears(row)), len(row) - 2)
            self.assertEqual(sum(number(area(three)) for three in ears(row)), whole)
            for many in range(1, len(row)):
                for lot in itertools.combinations(threes, many):
                    apart = all(both_bulging(one, other) is None for one, other in itertools.combinations(lot, 2))
                    cuts = apart and sum(number(area(three)) for three in lot) == whole and all(
                        self.is_covered(row, three) for three in lot)
                    try:
                        self.assertEqual(check_threes(row, lot), many)
                    except BadPaper:
                        self.assertFalse(cuts)
                    else:
                        self.assertTrue(cuts)

    def is_covered(self, row, three):
        """Tell whether three corners' inside lies in a ring: what both have is as great as the three."""
        one, other = Map({"a": [row]}), Map({"a": [three]})
        return Overlay(one, other).both("a", "a") == area(three)


class Fields(unittest.TestCase):
    def see_map(self, made):
        self.assertEqual([one.__class__ for one in (made.regions, made.faces, made.owners, made.sides)],
                         [dict, tuple, list, dict])
        self.assertEqual(len(made.faces), len(made.owners))
        tuples_all_through(self, made.faces)
        for name, rings in made.regions.items():
            tuples_all_through(self, rings)
            self.assertEqual(rings, made.rings(name))
        for face, owner in zip(made.faces, made.owners):
            self.assertEqual(made.owner_of(inner_point(face)), owner)
            self.assertIn(owner, [None, *made.regions])

    def test_of_maps_when_made_and_after_each_deed(self):
        for made in some_maps(109, 6):
            self.see_map(made)
            before = map_state(made)
            for work in (made.names, made.whole, made.gaps, made.borders, made.neighbours, made.shown):
                work()
                self.assertEqual(map_state(made), before)
            for found in (filled_gaps(made), simpler(made, (1, 2)), quarter_turned(1).of_map(made), Map({})):
                self.see_map(found)
            if made.names() != ():
                self.see_map(merged(made, made.names(), "z"))
            self.assertEqual(map_state(made), before)

    def test_of_overlays(self):
        for one, other in itertools.combinations(some_maps(110, 3), 2):
            found = Overlay(one, other)
            self.assertEqual((found.faces.__class__, found.owners.__class__), (tuple, list))
            tuples_all_through(self, found.faces)
            before = (found.faces, list(found.owners))
            for work in (found.areas, found.unlike, lambda: alike(found)):
                work()
            self.assertEqual((found.faces, found.owners), before)
            self.assertEqual([(one.owner_of(here), other.owner_of(here)) for here in map(inner_point, found.faces)],
                             found.owners)

    def test_of_labels(self):
        one = Label("a", spot(0, 0), (1, 1), (1, 1))
        self.assertEqual(one.name, "a")
        one.meets(Label("b", spot(0, 0), (1, 1), (1, 1)))
        one.ring()
        self.assertEqual(one.name, "a")

    def test_of_fours(self):
        made = Fours(2, 1)
        self.assertEqual((made.points, made.size, made.looked), ({}, 4, 0))
        made.put("a", 1, 1)
        made.put("b", 3, 3)
        self.assertEqual((made.points, made.size, made.looked), ({"a": (1, 1), "b": (3, 3)}, 4, 0))
        made.within(0, 0, 2, 2)
        self.assertEqual((made.points, made.size, made.looked), ({"a": (1, 1), "b": (3, 3)}, 4, 2))
        made.take("a")
        self.assertEqual((made.points, made.size, made.looked), ({"b": (3, 3)}, 4, 2))
        made.within(0, 0, 2, 2)
        self.assertEqual((made.points, made.size, made.looked), ({"b": (3, 3)}, 4, 1))

    def test_of_desks(self):
        desk = Desk()
        self.assertEqual((desk.rows, desk.text, desk.many), (None, "", 0))
        lines = []
        for line, rows in (("open 2 2", ("..", "..")), ("paint 1 0 b", (".b", "..")), ("paint 0 1 a", (".b", "a.")),
                           ("merge a b c", (".c", "c.")), ("open 1 1", (".",))):
            for other in ("rows", "gaps", "paint 9 9 a", "merge x y z", "open 0 0", ""):
                desk.say(other)
            desk.say(line)
            lines.append(line)
            self.assertEqual((desk.rows, desk.many), (rows, len(lines)))
            self.assertEqual(lines_of(desk.text), tuple(lines))
            self.see_map(desk.map)


class Kinds(unittest.TestCase):
    def test_what_is_refused_makes_nothing(self):
        made = map_of(["abc"])
        before = map_state(made)
        for work in (lambda: merged(made, ["a"], "c"), lambda: cut(made, "a", spot(0, 0), spot(0, 1), "l", "r")):
            self.assertRaises(BadMap, work)
        self.assertRaises(BadSize, merged, made, ["x"], "c")
        self.assertRaises(BadSize, simpler, made, (-1, 1))
        self.assertEqual(map_state(made), before)


if __name__ == "__main__":
    unittest.main()
