import itertools
import random
import unittest

from borderwright.boxes import Fours, code, depth_of, doubled, is_leaf, uncoded
from borderwright.errors import BadSize, NoSuch
from helper import refused_unchanged, tuples_all_through


def state(made):
    """Return all that a tree of fours keeps."""
    return (made.depth, made.most, made.size, dict(made.points), made.looked)


def filled_with(depth, most, *spots):
    """Return a tree of fours with points by the names a, b, c and so on."""
    made = Fours(depth, most)
    for name, (x, y) in zip("abcdefghijklmnopqrstuvwxyz", spots):
        made.put(name, x, y)
    return made


def squares_of(made, tree, x, y, size):
    """Return all (x, y, size) of a tree's squares."""
    found = [(x, y, size)]
    if not is_leaf(tree):
        half = size // 2
        for part, aside, up in zip(tree, (0, half, 0, half), (0, 0, half, half)):
            found.extend(squares_of(made, part, x + aside, y + up, half))
    return found


def some_trees():
    """Return some trees of fours with random points."""
    rand = random.Random(33)
    found = []
    for _ in range(25):
        depth = rand.randint(0, 4)
        made = Fours(depth, rand.randint(1, 4))
        for name in rand.sample("abcdefghijklmnopqrstuvwxyz", rand.randint(0, 20)):
            made.put(name, rand.randrange(made.size), rand.randrange(made.size))
        found.append(made)
    return found


class Made(unittest.TestCase):
    def test_fields(self):
        for depth, most, size in ((0, 1, 1), (3, 2, 8), (10, 99, 1024)):
            made = Fours(depth, most)
            self.assertEqual(state(made), (depth, most, size, {}, 0))
            self.assertIs(made.points.__class__, dict)

    def test_refused(self):
        for depth, most in ((-1, 1), (11, 1), (3, 0), (3, -1), (-1, 0)):
            refused_unchanged(self, BadSize, Fours, depth, most)


class Put(unittest.TestCase):
    def test_inside_and_at_the_edges(self):
        made = Fours(2, 1)
        for number, (x, y) in enumerate([(0, 0), (3, 3), (0, 3), (3, 0), (1, 2), (1, 2)]):
            self.assertIsNone(made.put(f"n{number}", x, y))
        self.assertEqual(made.points, {"n0": (0, 0), "n1": (3, 3), "n2": (0, 3), "n3": (3, 0), "n4": (1, 2),
                                       "n5": (1, 2)})
        self.assertEqual((made.depth, made.most, made.size, made.looked), (2, 1, 4, 0))

    def test_outside_is_refused_and_changes_nothing(self):
        made = filled_with(2, 1, (1, 1))
        made.within(0, 0, 4, 4)
        before = state(made)
        for name in ("a", "b"):
            for x, y in ((-1, 0), (0, -1), (4, 0), (0, 4), (4, 4), (9, -9)):
                refused_unchanged(self, BadSize, lambda *handed: made.put(*handed), name, x, y)
        self.assertEqual(state(made), before)
        self.assertEqual(made.looked, 1)

    def test_a_name_that_is_there_goes_elsewhere(self):
        made = filled_with(2, 1, (1, 1), (2, 2))
        made.put("a", 3, 0)
        self.assertEqual(made.points, {"a": (3, 0), "b": (2, 2)})
        self.assertEqual(made.within(0, 0, 2, 2), ())
        self.assertEqual(made.within(2, 0, 4, 2), ("a",))

    def test_take(self):
        made = filled_with(2, 1, (1, 1), (2, 2))
        self.assertIsNone(made.take("a"))
        self.assertEqual(state(made), (2, 1, 4, {"b": (2, 2)}, 0))
        self.assertEqual(made.tree(), ("b",))
        made.put("a", 0, 0)
        self.assertEqual(made.points, {"b": (2, 2), "a": (0, 0)})

    def test_what_is_not_there_is_not_taken(self):
        made = filled_with(2, 1, (1, 1))
        made.within(0, 0, 4, 4)
        before = state(made)
        refused_unchanged(self, NoSuch, lambda name: made.take(name), "b")
        self.assertEqual(state(made), before)
        made.take("a")
        self.assertRaises(NoSuch, made.take, "a")


class Tree(unittest.TestCase):
    def test_of_no_points(self):
        for depth in (0, 5):
            self.assertEqual(Fours(depth, 1).tree(), ())

    def test_of_as_many_as_told_names_in_order(self):
        made = Fours(3, 3)
        for name, x, y in (("c", 0, 0), ("a", 7, 7), ("b", 3, 3)):
            made.put(name, x, y)
        self.assertEqual(made.tree(), ("a", "b", "c"))
        tuples_all_through(self, made.tree())

    def test_of_more_in_order_of_fours(self):
        made = filled_with(3, 1, (3, 3), (4, 3), (3, 4), (4, 4))
        self.assertEqual(made.tree(), (("a",), ("b",), ("c",), ("d",)))
        tuples_all_through(self, made.tree())
        made = filled_with(3, 2, (7, 0), (6, 1), (4, 2))
        self.assertEqual(made.tree(), ((), ((), ("a", "b"), ("c",), ()), (), ()))

    def test_of_points_at_one_place(self):
        for depth in range(4):
            made = Fours(depth, 1)
            for name in "cab":
                made.put(name, 0, made.size - 1)
            wanted = ("a", "b", "c")
            for _ in range(depth):
                wanted = ((), (), wanted, ())
            self.assertEqual(made.tree(), wanted)
            self.assertEqual(depth_of(made.tree()), depth)

    def test_cut(self):
        made = filled_with(3, 1, (0, 0), (1, 1), (5, 5), (7, 7), (4, 5))
        self.assertEqual(made.cut(["b", "a"], 0, 0, 2), (("a",), (), (), ("b",)))
        self.assertEqual(made.cut(("e", "d", "c"), 4, 4, 4), (
            (((), (), ("e",), ("c",))), (), (), ("d",)))
        self.assertEqual(made.cut([], 4, 4, 4), ())
        self.assertEqual(made.cut(["d"], 7, 7, 1), ("d",))
        tuples_all_through(self, made.cut(["a", "b"], 0, 0, 2))

    def test_cut_leaves_out_what_lies_outside(self):
        made = filled_with(3, 1, (0, 0), (1, 1), (5, 5), (4, 3), (3, 4))
        self.assertEqual(made.cut(list("abcde"), 4, 4, 4), ("c",))
        self.assertEqual(made.cut(list("edc"), 4, 0, 4), ("d",))

    def test_cut_changes_nothing_that_is_handed_in(self):
        made = filled_with(3, 1, (0, 0), (1, 1))
        names, before = ["b", "a"], state(made)
        made.cut(names, 0, 0, 8)
        self.assertEqual((names, state(made)), (["b", "a"], before))

    def test_each_square_holds_what_lies_in_it_and_is_cut_just_where_it_must(self):
        for made in some_trees():
            self.see_square(made, made.tree(), 0, 0, made.size)

    def see_square(self, made, tree, x, y, size):
        mine = sorted(name for name, (here, up) in made.points.items() if x <= here < x + size and y <= up < y + size)
        if len(mine) <= made.most or size == 1:
            self.assertEqual(tree, tuple(mine))
            return
        half = size // 2
        self.assertEqual(len(tree), 4)
        for part, (aside, up) in zip(tree, ((0, 0), (half, 0), (0, half), (half, half))):
            self.see_square(made, part, x + aside, y + up, half)

    def test_is_leaf(self):
        for tree in ((), ("a",), ("a", "b", "c", "d")):
            self.assertIs(is_leaf(tree), True)
        for tree in (((), (), (), ()), (("a",), (), (), ()), (((), (), (), ()), (), (), ())):
            self.assertIs(is_leaf(tree), False)

    def test_depth_of(self):
        self.assertEqual(depth_of(()), 0)
        self.assertEqual(depth_of(("a", "b")), 0)
        self.assertEqual(depth_of((("a",), (), (), ())), 1)
        self.assertEqual(depth_of(((), (), ((), ("a",), (), ()), ("b",))), 2)
        self.assertEqual(depth_of(((), (), (), ((), ((), (), (), ()), (), ()))), 3)


class Within(unittest.TestCase):
    def test_lower_edges_and_not_upper_ones(self):
        made = filled_with(3, 1, (2, 2), (5, 2), (2, 5), (5, 5), (4, 4), (3, 2))
        self.assertEqual(made.within(2, 2, 5, 5), ("a", "e", "f"))
        self.assertEqual(made.within(2, 2, 6, 6), ("a", "b", "c", "d", "e", "f"))
        self.assertEqual(made.within(3, 3, 5, 5), ("e",))
        self.assertEqual(made.within(5, 5, 6, 6), ("d",))

    def test_names_in_order(self):
        made = Fours(3, 1)
        for name, x, y in (("d", 0, 0), ("c", 7, 0), ("b", 0, 7), ("a", 7, 7)):
            made.put(name, x, y)
        found = made.within(0, 0, 8, 8)
        self.assertEqual(found, ("a", "b", "c", "d"))
        tuples_all_through(self, found)

    def test_boxes_that_hold_nothing(self):
        made = filled_with(3, 1, (2, 2), (5, 5))
        for box in ((0, 0, 2, 2), (2, 2, 2, 2), (3, 2, 4, 3), (6, 6, 8, 8), (2, 3, 3, 9)):
            self.assertEqual(made.within(*box), ())
        self.assertEqual(Fours(3, 1).within(0, 0, 8, 8), ())

    def test_boxes_turned_about(self):
        made = filled_with(3, 1, (2, 2), (5, 5))
        for box in ((6, 6, 1, 1), (1, 6, 6, 1), (6, 1, 1, 6)):
            self.assertEqual(made.within(*box), ())

    def test_boxes_beyond_the_square(self):
        made = filled_with(3, 1, (0, 0), (7, 7))
        self.assertEqual(made.within(-5, -5, 99, 99), ("a", "b"))
        self.assertEqual(made.within(-5, -5, 1, 1), ("a",))
        self.assertEqual(made.within(8, 8, 99, 99), ())
        self.assertEqual(made.looked, 0)

    def test_looked_at_the_whole_one_alone(self):
        made = filled_with(3, 2, (2, 2), (5, 5))
        for box in ((0, 0, 8, 8), (0, 0, 1, 1), (7, 7, 8, 8), (-9, -9, 1, 1), (3, 3, 3, 3)):
            made.within(*box)
            self.assertEqual(made.looked, 1)
        for box in ((8, 0, 9, 9), (0, 8, 9, 9), (-9, 0, 0, 9), (0, -9, 9, 0), (0, 0, 0, 0), (8, 8, 8, 8)):
            made.within(*box)
            self.assertEqual(made.looked, 0)

    def test_looked_at_bare_squares_too(self):
        made = filled_with(3, 1, (0, 0), (1, 1))
        # The tree is cut in fours three times, always low left: one whole square, and four more each time.
        made.within(0, 0, 8, 8)
        self.assertEqual(made.looked, 13)
        made.within(0, 0, 1, 1)
        self.assertEqual(made.looked, 4)
        made.within(5, 5, 6, 6)
        self.assertEqual(made.looked, 2)
        made.within(3, 3, 5, 5)
        self.assertEqual(made.looked, 1 + 4 + 1)

    def test_looked_compares_each_edge_apart(self):
        made = filled_with(2, 1, (0, 0), (3, 3), (0, 3), (3, 0))
        # Turned about, a box is met by what lies below its higher edges and ends above its lower ones.
        made.within(2, 2, 2, 2)
        self.assertEqual(made.looked, 1)
        made.within(1, 1, 1, 1)
        self.assertEqual(made.looked, 2)
        made.within(3, 3, 1, 1)
        self.assertEqual(made.looked, 1)
        made.within(1, 3, 3, 1)
        self.assertEqual(made.looked, 1)
        made.within(1, 1, 3, 3)
        self.assertEqual(made.looked, 5)

    def test_looked_is_that_of_the_last_box_alone(self):
        made = filled_with(3, 1, (0, 0), (1, 1))
        for _ in range(3):
            made.within(0, 0, 8, 8)
            self.assertEqual(made.looked, 13)
        made.put("c", 7, 7)
        made.take("c")
        made.nearest(0, 0)
        made.tree()
        self.assertEqual(made.looked, 13)

    def test_against_all_points_and_all_squares(self):
        rand = random.Random(34)
        for made in some_trees():
            squares = squares_of(made, made.tree(), 0, 0, made.size)
            for _ in range(30):
                low_x, low_y, high_x, high_y = [rand.randint(-2, made.size + 2) for _ in range(4)]
                wanted = sorted(name for name, (x, y) in made.points.items()
                                if low_x <= x < high_x and low_y <= y < high_y)
                before = dict(made.points)
                self.assertEqual(made.within(low_x, low_y, high_x, high_y), tuple(wanted))
                self.assertEqual(made.points, before)
                self.assertEqual(made.looked, len([
                    x for x, y, size in squares
                    if x < high_x and y < high_y and x + size > low_x and y + size > low_y]))

    def test_found(self):
        made = filled_with(3, 1, (0, 0), (1, 1), (5, 5), (2, 1))
        found = made.found(made.tree(), 0, 0, 8, (0, 0, 6, 6))
        self.assertIs(found.__class__, list)
        self.assertEqual(sorted(found), ["a", "b", "c", "d"])
        self.assertEqual(made.found(made.tree()[3], 4, 4, 4, (5, 5, 6, 6)), ["c"])
        self.assertEqual(made.found(made.tree()[3], 4, 4, 4, (0, 0, 5, 5)), [])
        self.assertEqual(made.found(("a", "b"), 0, 0, 2, (1, 0, 8, 8)), ["b"])
        self.assertEqual(made.found(("a", "b"), 0, 0, 2, (2, 0, 8, 8)), [])


class Nearest(unittest.TestCase):
    def test_ties_in_order(self):
        made = Fours(3, 1)
        for name, x, y in (("d", 2, 4), ("c", 6, 4), ("a", 4, 6), ("b", 7, 7), ("e", 4, 2)):
            made.put(name, x, y)
        found = made.nearest(4, 4)
        self.assertEqual(found, ("a", "c", "d", "e"))
        tuples_all_through(self, found)
        self.assertEqual(made.nearest(7, 7), ("b",))

    def test_spots_outside(self):
        made = filled_with(3, 1, (0, 0), (7, 7), (7, 7))
        self.assertEqual(made.nearest(-5, 2), ("a",))
        self.assertEqual(made.nearest(99, 99), ("b", "c"))

    def test_none(self):
        made = Fours(3, 1)
        self.assertRaises(NoSuch, made.nearest, 0, 0)
        made.put("a", 1, 1)
        made.take("a")
        before = state(made)
        self.assertRaises(NoSuch, made.nearest, 0, 0)
        self.assertEqual(state(made), before)

    def test_against_going_through_all_points(self):
        for made in some_trees():
            if made.points:
                for x, y in itertools.product(range(-1, made.size + 1, 2), repeat=2):
                    rows = {name: (here - x) ** 2 + (up - y) ** 2 for name, (here, up) in made.points.items()}
                    wanted = sorted(name for name in rows if rows[name] == min(rows.values()))
                    before = state(made)
                    self.assertEqual(made.nearest(x, y), tuple(wanted))
                    self.assertEqual(state(made), before)


class Codes(unittest.TestCase):
    def test_doubled(self):
        self.assertEqual([doubled(count) for count in range(6)], [1, 2, 4, 8, 16, 32])
        self.assertEqual(doubled(100), 2 ** 100)

    def test_signs_in_turn(self):
        self.assertEqual([code(x, y, 1) for x, y in ((0, 0), (1, 0), (0, 1), (1, 1))], [0, 1, 2, 3])
        self.assertEqual(code(5, 3, 3), 0b011011)
        self.assertEqual(code(7, 0, 3), 0b010101)
        self.assertEqual(code(0, 7, 3), 0b101010)
        self.assertEqual(uncoded(0b011011, 3), (5, 3))
        tuples_all_through(self, uncoded(5, 3))

    def test_by_the_way_in_the_tree(self):
        for depth in range(4):
            made = Fours(depth, 1)
            for x, y in itertools.product(range(made.size), repeat=2):
                made.points.clear()
                made.put("a", x, y)
                made.put("b", x, y)
                tree, way = made.tree(), 0
                while not is_leaf(tree):
                    place = [place for place, part in enumerate(tree) if part != ()][0]
                    tree, way = tree[place], way * 4 + place
                self.assertEqual(code(x, y, depth), way)

    def test_there_and_back(self):
        for depth in range(5):
            numbers = []
            for y, x in itertools.product(range(2 ** depth), repeat=2):
                numbers.append(code(x, y, depth))
                self.assertEqual(uncoded(numbers[-1], depth), (x, y))
            self.assertEqual(sorted(numbers), list(range(4 ** depth)))
        self.assertEqual(uncoded(code(2 ** 40 - 5, 3 ** 20, 40), 40), (2 ** 40 - 5, 3 ** 20))

    def test_outside_is_refused(self):
        for depth in range(4):
            size = 2 ** depth
            for x, y in ((-1, 0), (0, -1), (size, 0), (0, size)):
                refused_unchanged(self, BadSize, code, x, y, depth)
            for number in (-1, size * size, size * size + 1):
                refused_unchanged(self, BadSize, uncoded, number, depth)


if __name__ == "__main__":
    unittest.main()
