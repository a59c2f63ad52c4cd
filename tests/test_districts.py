import itertools
import random
import unittest

from borderwright.cells import map_of
from borderwright.colours import links_of
from borderwright.districts import (
    all_cuts, check_cut, check_weights, cut_edges, evenest, gone_over, hangs, seats, swapped, uneven, won,
)
from borderwright.errors import BadPaper, BadSize
from helper import refused_unchanged, tuples_all_through, unchanged

LINE = {"a": ["b"], "b": ["a", "c"], "c": ["b", "d"], "d": ("c",)}
NAMES = ["a", "b", "c", "d"]
WEIGHTS = {"a": 3, "b": 1, "c": 2, "d": 2}


def grid(wide, high):
    """Return the names and links of squares that share sides."""
    names = [f"{x}{y}" for y in range(high) for x in range(wide)]
    links = {f"{x}{y}": [f"{x + a}{y + b}" for a, b in ((-1, 0), (0, -1), (0, 1), (1, 0))
                         if 0 <= x + a < wide and 0 <= y + b < high] for y in range(high) for x in range(wide)}
    return names, links


def together(links, lot):
    """Tell whether a lot hangs together, by joining what is linked until no more can be."""
    lots = [{name} for name in set(lot)]
    for one in lot:
        for other in links.get(one, ()):
            if other in lot:
                mine = [row for row in lots if one in row or other in row]
                lots = [row for row in lots if row not in mine] + [set().union(*mine)]
    return len(lots) == 1


def choices(names, many):
    """Return all ways to put names in so many lots, in order of what is chosen for each name in turn."""
    found = []
    for row in itertools.product(range(len(names)), repeat=len(names)):
        # A number is a lot there is, or the next new one.
        if all(number <= len(set(row[:place])) for place, number in enumerate(row)) and len(set(row)) == many:
            found.append(tuple(tuple(name for name, one in zip(names, row) if one == number)
                               for number in range(many)))
    return found


def tried():
    """Return some (names, links, weights) of up to six names."""
    rand = random.Random(31)
    found = [([], {}, {}), (["x"], {}, {"x": 4}), (["x"], {"x": []}, {"x": 0})]
    for _ in range(25):
        names = list("abcdef")[:rand.randint(2, 6)]
        rand.shuffle(names)
        share = rand.random()
        pairs = [pair for pair in itertools.combinations(names, 2) if rand.random() < share]
        found.append((names, links_of(names, pairs), {name: rand.randint(0, 4) for name in names}))
    return found


class Weights(unittest.TestCase):
    def test_taken(self):
        self.assertIsNone(unchanged(self, check_weights, NAMES, LINE, WEIGHTS))
        self.assertIsNone(check_weights(("b", "a"), {"a": ("b",), "b": ("a",)}, {"a": 0, "b": 0}))
        self.assertIsNone(check_weights([], {}, {}))
        self.assertIsNone(check_weights(["a"], {}, {"a": 1}))

    def test_of_other_names_are_refused(self):
        for weights in ({}, {"a": 3, "b": 1, "c": 2}, {**WEIGHTS, "e": 1}, {"a": 1, "b": 1, "c": 1, "e": 1}):
            refused_unchanged(self, BadSize, check_weights, NAMES, LINE, weights)
            refused_unchanged(self, BadSize, evenest, NAMES, LINE, weights, 2)
            refused_unchanged(self, BadSize, check_cut, NAMES, LINE, weights, [NAMES], 9)
        refused_unchanged(self, BadSize, check_weights, ["a", "a"], {}, {"a": 1})

    def test_below_nought_are_refused(self):
        refused_unchanged(self, BadSize, check_weights, NAMES, LINE, {**WEIGHTS, "d": -1})
        refused_unchanged(self, BadSize, evenest, NAMES, LINE, {**WEIGHTS, "a": -1}, 2)
        refused_unchanged(self, BadSize, check_cut, NAMES, LINE, {**WEIGHTS, "a": -1}, [NAMES], 9)

    def test_links_one_way_only_are_refused(self):
        for links in ({**LINE, "a": []}, {**LINE, "d": ["c", "a"]}, {"a": ["b"]}, {**LINE, "d": ["c", "x"]}):
            refused_unchanged(self, BadSize, check_weights, NAMES, links, WEIGHTS)
            refused_unchanged(self, BadSize, evenest, NAMES, links, WEIGHTS, 2)
        refused_unchanged(self, BadSize, check_cut, NAMES, {**LINE, "d": ["c", "a"]}, WEIGHTS, [NAMES], 9)


class Hangs(unittest.TestCase):
    def test_bare_and_one(self):
        self.assertIs(hangs(LINE, []), False)
        self.assertIs(hangs({}, ()), False)
        self.assertIs(hangs(LINE, ["c"]), True)
        self.assertIs(hangs({}, ("c",)), True)

    def test_by_a_name_of_the_lot(self):
        self.assertIs(unchanged(self, hangs, LINE, ["a", "c", "b"]), True)
        self.assertIs(hangs(LINE, ("d", "c", "b", "a")), True)

    def test_by_a_name_outside_alone(self):
        self.assertIs(unchanged(self, hangs, LINE, ["a", "c"]), False)
        self.assertIs(hangs(LINE, ["a", "b", "d"]), False)
        self.assertIs(hangs(LINE, ["a", "d"]), False)

    def test_against_joining(self):
        for names, links, _ in tried():
            for many in range(1, len(names) + 1):
                for lot in itertools.combinations(names, many):
                    self.assertIs(hangs(links, lot), together(links, lot))


class Cuts(unittest.TestCase):
    def test_in_order(self):
        found = unchanged(self, all_cuts, NAMES, LINE, 2)
        self.assertEqual(found, ((("a", "b", "c"), ("d",)), (("a", "b"), ("c", "d")), (("a",), ("b", "c", "d"))))
        tuples_all_through(self, found)
        square = {"a": ["b", "d"], "b": ["a", "c"], "c": ["b", "d"], "d": ["c", "a"]}
        self.assertEqual(all_cuts(tuple(NAMES), square, 3), (
            (("a", "b"), ("c",), ("d",)), (("a",), ("b", "c"), ("d",)), (("a", "d"), ("b",), ("c",)),
            (("a",), ("b",), ("c", "d"))))

    def test_names_as_they_stand(self):
        self.assertEqual(all_cuts(["c", "a", "b"], LINE, 2), ((("c", "b"), ("a",)), (("c",), ("a", "b"))))

    def test_counts_from_one_to_more_than_names(self):
        self.assertEqual(all_cuts(NAMES, LINE, 1), ((("a", "b", "c", "d"),),))
        self.assertEqual(all_cuts(NAMES, LINE, 4), ((("a",), ("b",), ("c",), ("d",)),))
        self.assertEqual(all_cuts(NAMES, LINE, 5), ())
        self.assertEqual(all_cuts(["a", "c"], LINE, 1), ())

    def test_no_names(self):
        for many in (1, 2):
            self.assertEqual(all_cuts([], {}, many), ())

    def test_against_trying_all(self):
        for names, links, _ in tried():
            for many in range(1, len(names) + 2):
                wanted = [cut for cut in choices(names, many) if all(together(links, lot) for lot in cut)]
                self.assertEqual(all_cuts(names, links, many), tuple(wanted))

    def test_fewer_than_one_lot_or_too_many_names_are_refused(self):
        for many in (0, -1):
            refused_unchanged(self, BadSize, all_cuts, NAMES, LINE, many)
            refused_unchanged(self, BadSize, all_cuts, [], {}, many)
            refused_unchanged(self, BadSize, evenest, NAMES, LINE, WEIGHTS, many)
        names, links = grid(13, 1)
        refused_unchanged(self, BadSize, all_cuts, names, links, 2)
        refused_unchanged(self, BadSize, evenest, names, links, {name: 1 for name in names}, 2)
        self.assertEqual(len(all_cuts(names[:12], links, 2)), 11)


class Even(unittest.TestCase):
    def test_uneven(self):
        self.assertEqual(unchanged(self, uneven, WEIGHTS, [["a"], ["b", "c", "d"]]), 2)
        self.assertEqual(uneven(WEIGHTS, (("a",), ("b",), ("c", "d"))), 3)
        self.assertEqual(uneven(WEIGHTS, [NAMES]), 0)
        self.assertEqual(uneven(WEIGHTS, [NAMES, []]), 8)

    def test_evenest(self):
        found = unchanged(self, evenest, NAMES, LINE, WEIGHTS, 2)
        self.assertEqual(found, (("a", "b"), ("c", "d")))
        tuples_all_through(self, found)

    def test_ties_go_to_the_first(self):
        self.assertEqual(evenest(NAMES, LINE, {"a": 1, "b": 1, "c": 0, "d": 2}, 2), (("a", "b", "c"), ("d",)))
        self.assertEqual(evenest(NAMES, LINE, {name: 0 for name in NAMES}, 3), (("a", "b"), ("c",), ("d",)))

    def test_none_where_there_is_no_cut(self):
        self.assertIsNone(evenest(NAMES, LINE, WEIGHTS, 5))
        self.assertIsNone(evenest(["a", "c"], {}, {"a": 1, "c": 1}, 1))
        self.assertIsNone(evenest([], {}, {}, 1))

    def test_against_trying_all(self):
        for names, links, weights in tried():
            for many in range(1, len(names) + 2):
                rows = [cut for cut in choices(names, many) if all(together(links, lot) for lot in cut)]
                sums = [[sum(weights[name] for name in lot) for lot in cut] for cut in rows]
                much = [max(row) - min(row) for row in sums]
                wanted = rows[much.index(min(much))] if rows else None
                self.assertEqual(evenest(names, links, weights, many), wanted)

    def test_cut_edges(self):
        self.assertEqual(unchanged(self, cut_edges, LINE, [["a", "b"], ["c", "d"]]), 1)
        self.assertEqual(cut_edges(LINE, (("a",), ("b",), ("c",), ("d",))), 3)
        self.assertEqual(cut_edges(LINE, [["a", "c"], ["b", "d"]]), 3)
        self.assertEqual(cut_edges(LINE, [NAMES]), 0)
        self.assertEqual(cut_edges({}, [["a"], ["b"]]), 0)
        # A name that is in no lot has no link between lots.
        self.assertEqual(cut_edges(LINE, [["a"], ["c", "d"]]), 0)

    def test_cut_edges_against_all_pairs(self):
        for names, links, _ in tried():
            for many in range(1, len(names) + 1):
                for cut in choices(names, many):
                    lots = {name: lot for lot in cut for name in lot}
                    self.assertEqual(cut_edges(links, cut), len([
                        one for one, other in itertools.combinations(names, 2)
                        if other in links[one] and lots[one] != lots[other]]) if links else 0)

    def test_of_a_map(self):
        made = map_of(["aab", "ccb", "ddd"])
        names, links = made.names(), links_of(made.names(), made.neighbours())
        weights = {name: made.area(name)[0] for name in names}
        self.assertEqual(evenest(names, links, weights, 2), (("a", "b"), ("c", "d")))


class Papers(unittest.TestCase):
    def test_taken(self):
        for cut in ([["b", "a"], ("d", "c")], (("c", "d"), ("a", "b"))):
            self.assertEqual(unchanged(self, check_cut, NAMES, LINE, WEIGHTS, cut, 0), 0)
        self.assertEqual(check_cut(NAMES, LINE, WEIGHTS, [["a"], ["b", "c", "d"]], 2), 2)
        self.assertEqual(check_cut(NAMES, LINE, WEIGHTS, [["a"], ["b", "c", "d"]], 9), 2)
        self.assertEqual(check_cut([], {}, {}, [], 0), 0)

    def test_a_name_twice_or_left_out_is_refused(self):
        for cut in ([["a", "b"], ["c"]], [["a", "b"], ["b", "c", "d"]], [["a", "b"], ["c", "d", "d"]], [],
                    [["a", "b"], ["c", "d", "e"]], [NAMES, NAMES]):
            refused_unchanged(self, BadPaper, check_cut, NAMES, LINE, WEIGHTS, cut, 99)

    def test_lots_that_do_not_hang_together_or_bare_ones_are_refused(self):
        for cut in ([["a", "c"], ["b", "d"]], [["a", "b"], ["c", "d"], []], [["a", "b", "d"], ["c"]]):
            refused_unchanged(self, BadPaper, check_cut, NAMES, LINE, WEIGHTS, cut, 99)

    def test_more_uneven_than_told_is_refused(self):
        refused_unchanged(self, BadPaper, check_cut, NAMES, LINE, WEIGHTS, [["a"], ["b", "c", "d"]], 1)
        refused_unchanged(self, BadPaper, check_cut, NAMES, LINE, WEIGHTS, [["a", "b"], ["c", "d"]], -1)

    def test_a_bad_cut_is_refused_ahead_of_bad_weights(self):
        refused_unchanged(self, BadPaper, check_cut, NAMES, LINE, {}, [["a"]], 99)

    def test_taken_just_where_it_shows_what_is_so(self):
        for names, links, weights in tried():
            if len(names) > 4:
                continue
            lots = [lot for many in range(len(names) + 1) for lot in itertools.combinations(names, many)]
            for many in range(4):
                for cut in itertools.product(lots, repeat=many):
                    good = sorted(name for lot in cut for name in lot) == sorted(names)
                    good = good and all(lot and together(links, lot) for lot in cut)
                    sums = [sum(weights[name] for name in lot) for lot in cut]
                    much = max(sums, default=0) - min(sums, default=0)
                    if good:
                        self.assertEqual(check_cut(names, links, weights, cut, much), much)
                        self.assertRaises(BadPaper, check_cut, names, links, weights, cut, much - 1)
                    else:
                        self.assertRaises(BadPaper, check_cut, names, links, weights, cut, much)

    def test_papers_that_are_made_are_taken(self):
        for names, links, weights in tried():
            for many in range(1, len(names) + 1):
                cut = evenest(names, links, weights, many)
                if cut is not None:
                    much = uneven(weights, cut)
                    self.assertEqual(check_cut(names, links, weights, cut, much), much)
                    after = swapped(links, cut[::-1], weights)
                    self.assertEqual(check_cut(names, links, weights, after, much), much)


class Swapped(unittest.TestCase):
    def test_gone_over(self):
        found = unchanged(self, gone_over, [["a", "b"], ["c"], ["d"]], "a", 0, 2)
        self.assertIs(found.__class__, list)
        self.assertEqual([list(lot) for lot in found], [["b"], ["c"], ["d", "a"]])
        found = unchanged(self, gone_over, (("a",), ("c", "b")), "a", 0, 1)
        self.assertEqual([list(lot) for lot in found], [[], ["c", "b", "a"]])

    def test_one_step(self):
        found = unchanged(self, swapped, LINE, [["a"], ["b", "c", "d"]], {"a": 1, "b": 1, "c": 1, "d": 1})
        self.assertEqual(found, (("a", "b"), ("c", "d")))
        tuples_all_through(self, found)

    def test_names_in_order_at_the_end_and_lots_as_they_stand(self):
        self.assertEqual(swapped(LINE, (("d", "c"), ("b", "a")), WEIGHTS), (("c", "d"), ("a", "b")))
        self.assertEqual(swapped(LINE, [["d", "c", "b"], ["a"]], {"a": 1, "b": 1, "c": 1, "d": 1}),
                         (("c", "d"), ("a", "b")))
        self.assertEqual(swapped({}, [], {}), ())

    def test_the_first_name_as_names_stand_goes(self):
        links = links_of("abcd", list(itertools.combinations("abcd", 2)))
        even = {name: 1 for name in "abcd"}
        self.assertEqual(swapped(links, [["c", "b", "a"], ["d"]], even), (("a", "b"), ("c", "d")))
        self.assertEqual(swapped(links, [["d"], ["b", "a", "c"]], even), (("b", "d"), ("a", "c")))

    def test_the_first_other_lot_gets_it(self):
        links = links_of("abcde", list(itertools.combinations("abcde", 2)))
        weights = {"a": 2, "b": 2, "c": 2, "d": 1, "e": 2}
        # Either of the lots that have less would better it: by "d" going to the second one the first time.
        self.assertEqual(swapped(links, [["a"], ["b"], ["c", "d", "e"]], weights), (("a", "c"), ("b",), ("d", "e")))
        self.assertEqual(swapped(links, [["d", "c", "e"], ["b"], ["a"]], weights), (("c", "e"), ("b", "d"), ("a",)))

    def test_a_moved_name_stands_last_in_its_new_lot(self):
        links = links_of("abcd", list(itertools.combinations("abcd", 2)))
        # "c" goes to "d" and stands behind it, so that "d" is the first that may go on.
        self.assertEqual(swapped(links, [["d"], ["c", "b"], ["a"]], {"a": 0, "b": 4, "c": 1, "d": 3}),
                         (("c",), ("b",), ("a", "d")))

    def test_no_lot_is_ever_bare_or_in_two(self):
        self.assertEqual(swapped(LINE, [["a"], ["b", "c", "d"]], {"a": 0, "b": 0, "c": 9, "d": 0}),
                         (("a",), ("b", "c", "d")))
        self.assertEqual(swapped({"a": ["b"], "b": ["a"]}, [["a"], ["b"]], {"a": 1, "b": 0}), (("a",), ("b",)))
        # Only "b" could go, and by that the second lot would fall in two.
        links = links_of("abcd", [("a", "b"), ("b", "c"), ("b", "d")])
        self.assertEqual(swapped(links, [["a"], ["b", "c", "d"]], {name: 1 for name in "abcd"}),
                         (("a",), ("b", "c", "d")))

    def test_against_steps_one_by_one(self):
        for names, links, weights in tried():
            for many in range(1, len(names) + 1):
                for cut in all_cuts(names, links, many)[:6]:
                    rows = [list(lot)[::-1] for lot in cut]
                    before = uneven(weights, rows)
                    found = swapped(links, rows, weights)
                    self.assertLessEqual(uneven(weights, found), before)
                    self.assertEqual(found, self.stepped(links, rows, weights))
                    check_cut(names, links, weights, found, before)
                    # No step betters it any more.
                    self.assertEqual(self.steps(links, [list(lot) for lot in found], weights), [])

    def steps(self, links, rows, weights):
        """Return the lots of all steps that better some, in order."""
        found = []
        for one in range(len(rows)):
            for name in rows[one]:
                for other in range(len(rows)):
                    if one != other:
                        after = [[here for here in lot if here != name] for lot in rows]
                        after[other].append(name)
                        if uneven(weights, after) < uneven(weights, rows) and after[one] and all(
                                together(links, lot) for lot in after):
                            found.append(after)
        return found

    def stepped(self, links, rows, weights):
        """Return lots after the first step that betters them, again and again."""
        while self.steps(links, rows, weights):
            rows = self.steps(links, rows, weights)[0]
        return tuple(tuple(sorted(lot)) for lot in rows)


class Seats(unittest.TestCase):
    def test_one_by_one(self):
        found = unchanged(self, seats, {"a": 100, "b": 80, "c": 30, "d": 20}, 8)
        self.assertEqual(found, {"a": 4, "b": 3, "c": 1, "d": 0})
        self.assertIs(found.__class__, dict)
        self.assertEqual(seats({"a": 5}, 3), {"a": 3})

    def test_ties_go_to_the_first_of_alike_names_in_order(self):
        votes = {"c": 6, "b": 6, "a": 6}
        self.assertEqual([seats(votes, many) for many in range(4)], [
            {"a": 0, "b": 0, "c": 0}, {"a": 1, "b": 0, "c": 0}, {"a": 1, "b": 1, "c": 0}, {"a": 1, "b": 1, "c": 1}])
        # Six by two is as much as three by one.
        self.assertEqual(seats({"b": 6, "a": 3}, 2), {"a": 1, "b": 1})
        self.assertEqual(seats({"a": 6, "b": 3}, 2), {"a": 2, "b": 0})

    def test_nought(self):
        self.assertEqual(seats({"a": 1, "b": 2}, 0), {"a": 0, "b": 0})
        self.assertEqual(seats({"b": 0, "a": 0}, 2), {"a": 2, "b": 0})
        self.assertEqual(seats({"b": 1, "a": 0}, 3), {"a": 0, "b": 3})

    def test_against_shares_in_order(self):
        rand = random.Random(32)
        for _ in range(60):
            votes = {name: rand.randint(0, 9) for name in rand.sample("abcde", rand.randint(1, 5))}
            many = rand.randint(0, 9)
            # 2520 is shared evenly by all counts up to ten.
            rows = sorted((-votes[name] * 2520 // had, name, had) for name in votes for had in range(1, 11))
            wanted = {name: 0 for name in votes}
            for _, name, _ in rows[:many]:
                wanted[name] += 1
            self.assertEqual(seats(votes, many), wanted)

    def test_refused(self):
        for votes, many in (({"a": 1}, -1), ({}, 0), ({}, 3), ({"a": 1, "b": -1}, 1), ({"a": -1}, 0), ({}, -1)):
            refused_unchanged(self, BadSize, seats, votes, many)


class Won(unittest.TestCase):
    SIDES = {"a": ("red", 3), "b": ("blue", 2), "c": ("blue", 1), "d": ("green", 1), "e": ("red", 1)}

    def test_most_weight(self):
        found = unchanged(self, won, [["a", "b"], ["c"], ["e", "d", "b"]], self.SIDES)
        self.assertEqual(found, {"red": 1, "blue": 2})
        self.assertIs(found.__class__, dict)
        self.assertEqual(won((("a", "b", "e"), ("d",)), self.SIDES), {"red": 1, "green": 1})

    def test_weights_of_a_side_are_put_together(self):
        self.assertEqual(won([["b", "c", "d", "e"]], self.SIDES), {"blue": 1})
        self.assertEqual(won([["d", "e", "b"], ["a", "b"]], {**self.SIDES, "d": ("red", 2)}), {"red": 2})

    def test_a_tie_is_nobodys(self):
        self.assertEqual(won([["a", "b", "c"]], self.SIDES), {})
        self.assertEqual(won([["c", "d"], ["c", "e", "d"], ["a"]], self.SIDES), {"red": 1})

    def test_a_tie_of_those_that_have_less_is_nothing(self):
        self.assertEqual(won([["a", "c", "d"]], self.SIDES), {"red": 1})

    def test_none(self):
        self.assertEqual(won([], self.SIDES), {})
        self.assertEqual(won([[]], self.SIDES), {})


if __name__ == "__main__":
    unittest.main()
