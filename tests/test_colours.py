import itertools
import random
import unittest

from borderwright.cells import map_of
from borderwright.colours import (
    all_neighbours, by_fewest, check_colours, check_least, coloured, fewest, greedy, how_many, lay, links_of,
)
from borderwright.errors import BadPaper, BadSize
from helper import refused_unchanged, tuples_all_through, unchanged

BAD_PAIRS = ([("a", "x")], [("x", "a")], [("x", "y")], [("a", "a")], [("a", "b"), ("b", "b")])


def circle(many):
    """Return the names and pairs of a circle of so many."""
    names = [f"n{k:02}" for k in range(many)]
    return names, [(names[k - 1], names[k]) for k in range(many)]


def tables(names, many):
    """Return all tables of names to colours below so many, in order."""
    return [dict(zip(names, row)) for row in itertools.product(range(many), repeat=len(names))]


def good(pairs, table):
    """Tell whether neighbours have unlike colours."""
    return all(table[one] != table[other] for one, other in pairs)


def lots(names, pairs):
    """Return all lots of names that are all neighbours, the greatest first, then in order."""
    near = {frozenset(pair) for pair in pairs}
    found = []
    for many in range(len(names), -1, -1):
        for lot in itertools.combinations(names, many):
            if all(frozenset(pair) in near for pair in itertools.combinations(lot, 2)):
                found.append(lot)
    return found


def tried():
    """Return some (names, pairs) of up to six names, all of three names first."""
    found = []
    for many in range(4):
        names = list("abc")[:many]
        for row in itertools.product((False, True), repeat=many * (many - 1) // 2):
            pairs = list(itertools.combinations(names, 2))
            found.append((names, [pair for pair, there in zip(pairs, row) if there]))
    rand = random.Random(14)
    for _ in range(40):
        names = list("abcdef")[:rand.randint(4, 6)]
        share = rand.random()
        found.append((names, [pair for pair in itertools.combinations(names, 2) if rand.random() < share]))
    return found


class Links(unittest.TestCase):
    def test_links_of(self):
        found = unchanged(self, links_of, ["a", "b", "c", "d"], [("c", "a"), ("b", "a"), ("b", "c")])
        self.assertEqual(found, {"a": ["b", "c"], "b": ["a", "c"], "c": ["a", "b"], "d": []})
        self.assertEqual([one.__class__ for one in (found, found["a"], found["d"])], [dict, list, list])
        self.assertEqual(links_of((), ()), {})

    def test_pairs_told_twice_or_the_other_way_round(self):
        self.assertEqual(links_of("ab", [("a", "b"), ("a", "b"), ("b", "a")]), {"a": ["b"], "b": ["a"]})

    def test_pairs_of_other_names_are_refused(self):
        names = ["a", "b"]
        for pairs in BAD_PAIRS:
            for work in (links_of, fewest, all_neighbours, greedy, by_fewest):
                refused_unchanged(self, BadSize, work, names, pairs)
            for work in (coloured, how_many):
                refused_unchanged(self, BadSize, work, names, pairs, 3)
            refused_unchanged(self, BadSize, check_colours, names, pairs, {"a": 0, "b": 1})
            refused_unchanged(self, BadSize, check_least, names, pairs, {"a": 0, "b": 1}, ["a", "b"])

    def test_of_a_map(self):
        made = map_of(["aab", "acb"])
        self.assertEqual(links_of(made.names(), made.neighbours()), {"a": ["b", "c"], "b": ["a", "c"], "c": ["a", "b"]})
        self.assertEqual(fewest(made.names(), made.neighbours()), 3)


class Coloured(unittest.TestCase):
    def test_the_first_in_order(self):
        names, pairs = circle(4)
        self.assertEqual(unchanged(self, coloured, names, pairs, 3), {"n00": 0, "n01": 1, "n02": 0, "n03": 1})
        self.assertEqual(coloured(["a", "b", "c"], [("b", "c")], 2), {"a": 0, "b": 0, "c": 1})

    def test_too_few(self):
        names, pairs = circle(5)
        self.assertIsNone(unchanged(self, coloured, names, pairs, 2))
        self.assertIsNone(coloured(["a"], [], 0))
        self.assertEqual(coloured(["a"], [], 1), {"a": 0})

    def test_no_names(self):
        for many in range(3):
            self.assertEqual(coloured([], [], many), {})

    def test_against_all_tables(self):
        for names, pairs in tried():
            for many in range(5):
                fit = [table for table in tables(names, many) if good(pairs, table)]
                self.assertEqual(coloured(names, pairs, many), fit[0] if fit else None)

    def test_the_order_of_names_is_that_in_which_they_stand(self):
        self.assertEqual(coloured(["c", "a", "b"], [("a", "b"), ("a", "c")], 2), {"c": 0, "a": 1, "b": 0})
        self.assertEqual(coloured(["a", "b", "c"], [("a", "b"), ("a", "c")], 2), {"a": 0, "b": 1, "c": 1})

    def test_many_that_have_nothing_to_do_with_each_other(self):
        names = [f"a{k:02}" for k in range(60)] + ["x", "y", "z"]
        pairs = [("x", "y"), ("y", "z"), ("z", "x")]
        self.assertIsNone(coloured(names, pairs, 2))
        self.assertEqual(sum(coloured(names, pairs, 3).values()), 3)
        self.assertEqual(how_many(names, pairs, 3), 6 * 3 ** 60)

    def test_long_circles(self):
        for many, least in ((500, 2), (501, 3)):
            names, pairs = circle(many)
            self.assertEqual(fewest(names, pairs), least)
            found = coloured(names, pairs, least)
            self.assertTrue(good(pairs, found))

    def test_a_circle_whose_names_stand_in_another_order(self):
        names, pairs = circle(41)
        self.assertIsNone(coloured(names[::2] + names[1::2], pairs, 2))


class Lay(unittest.TestCase):
    LINKS = {"a": ["b", "c"], "b": ["a", "c"], "c": ["a", "b"]}

    def test_from_the_start(self):
        found = {}
        self.assertIs(lay(self.LINKS, ["a", "b", "c"], 0, 3, found), True)
        self.assertEqual(found, {"a": 0, "b": 1, "c": 2})

    def test_from_a_place_on(self):
        found = {"a": 2}
        self.assertIs(lay(self.LINKS, ("a", "b", "c"), 1, 3, found), True)
        self.assertEqual(found, {"a": 2, "b": 0, "c": 1})
        found = {"a": 1, "b": 0}
        self.assertIs(lay(self.LINKS, ("a", "b", "c"), 3, 0, found), True)
        self.assertEqual(found, {"a": 1, "b": 0})

    def test_where_it_can_not_be_nothing_is_left(self):
        for before, place in (({}, 0), ({"a": 1}, 1), ({"a": 0, "b": 1}, 2)):
            found = dict(before)
            self.assertIs(lay(self.LINKS, ["a", "b", "c"], place, 2, found), False)
            self.assertEqual(found, before)

    def test_what_is_handed_in_else_stays(self):
        links, names = {"a": ["b"], "b": ["a"]}, ["a", "b"]
        unchanged(self, lambda *handed: lay(*handed, 0, 2, {}), links, names)

    def test_against_all_tables(self):
        rand = random.Random(15)
        for names, pairs in tried():
            links = links_of(names, pairs)
            many = rand.randint(1, 4)
            place = rand.randint(0, len(names))
            for before in tables(names[:place], many):
                if not good([pair for pair in pairs if set(pair) <= set(before)], before):
                    continue
                fit = [{**before, **rest} for rest in tables(names[place:], many) if good(pairs, {**before, **rest})]
                found = dict(before)
                self.assertIs(lay(links, names, place, many, found), fit != [])
                self.assertEqual(found, fit[0] if fit else before)


class Least(unittest.TestCase):
    def test_fewest(self):
        self.assertEqual(fewest([], []), 0)
        self.assertEqual(fewest(["a"], []), 1)
        self.assertEqual(fewest(["a", "b"], []), 1)
        for many in range(3, 9):
            self.assertEqual(unchanged(self, fewest, *circle(many)), 2 + many % 2)
        for many in range(2, 7):
            names = list("abcdef")[:many]
            self.assertEqual(fewest(names, list(itertools.combinations(names, 2))), many)

    def test_fewest_against_all_tables(self):
        for names, pairs in tried():
            found = fewest(names, pairs)
            self.assertTrue(any(good(pairs, table) for table in tables(names, found)))
            self.assertFalse(found > 0 and any(good(pairs, table) for table in tables(names, found - 1)))

    def test_all_neighbours(self):
        found = unchanged(self, all_neighbours, list("abcde"), [("b", "c"), ("e", "d"), ("c", "d"), ("e", "c")])
        self.assertEqual(found, ("c", "d", "e"))
        tuples_all_through(self, found)
        self.assertEqual(all_neighbours([], []), ())
        self.assertEqual(all_neighbours(["b", "c"], []), ("b",))

    def test_all_neighbours_against_all_lots(self):
        for names, pairs in tried():
            self.assertEqual(all_neighbours(names, pairs), lots(names, pairs)[0])

    def test_greedy(self):
        names, pairs = list("abcd"), [("a", "d"), ("d", "c"), ("c", "b")]
        self.assertEqual(unchanged(self, greedy, names, pairs), {"a": 0, "b": 0, "c": 1, "d": 2})
        self.assertEqual(greedy(["a", "d", "c", "b"], pairs), {"a": 0, "d": 1, "c": 0, "b": 1})
        self.assertEqual(greedy([], []), {})

    def test_greedy_has_the_least_at_each_name(self):
        for names, pairs in tried():
            found = greedy(names, pairs)
            for place, name in enumerate(names):
                ahead = {found[one] for one in names[:place] if (one, name) in pairs or (name, one) in pairs}
                self.assertEqual(found[name], min(set(range(9)) - ahead))

    def test_by_fewest(self):
        found = unchanged(self, by_fewest, list("abcd"), [("a", "b"), ("a", "c"), ("b", "c"), ("c", "d")])
        self.assertEqual(found, ("c", "b", "a", "d"))
        tuples_all_through(self, found)
        self.assertEqual(by_fewest([], []), ())

    def test_by_fewest_with_ties(self):
        self.assertEqual(by_fewest(["a", "b", "c"], []), ("c", "b", "a"))
        self.assertEqual(by_fewest(["a", "b", "c"], [("a", "b"), ("b", "c")]), ("c", "b", "a"))
        self.assertEqual(by_fewest(["a", "b", "c"], [("a", "b"), ("a", "c")]), ("c", "a", "b"))

    def test_by_fewest_each_has_the_fewest_among_those_left(self):
        for names, pairs in tried():
            links = links_of(names, pairs)
            left = list(names)
            for name in by_fewest(names, pairs)[::-1]:
                counts = [len([one for one in links[other] if one in left]) for other in left]
                self.assertEqual(name, left[counts.index(min(counts))])
                left.remove(name)
            self.assertEqual(left, [])

    def test_how_many(self):
        self.assertEqual(unchanged(self, how_many, ["a", "b"], [("a", "b")], 3), 6)
        self.assertEqual(how_many([], [], 0), 1)
        self.assertEqual(how_many(["a"], [], 0), 0)
        names, pairs = circle(9)
        for many in range(6):
            self.assertEqual(how_many(names, pairs, many), (many - 1) ** 9 - (many - 1))

    def test_how_many_against_all_tables(self):
        for names, pairs in tried():
            for many in range(5):
                fit = [table for table in tables(names, many) if good(pairs, table)]
                self.assertEqual(how_many(names, pairs, many), len(fit))

    def test_how_many_below_nought_is_refused(self):
        refused_unchanged(self, BadSize, how_many, ["a"], [], -1)
        refused_unchanged(self, BadSize, how_many, [], [], -1)


class Papers(unittest.TestCase):
    NAMES = ["a", "b", "c", "d"]
    PAIRS = [("a", "b"), ("b", "c"), ("c", "a"), ("c", "d")]

    def test_check_colours(self):
        table = {"a": 0, "b": 1, "c": 2, "d": 0}
        self.assertEqual(unchanged(self, check_colours, self.NAMES, self.PAIRS, table), 3)
        self.assertEqual(check_colours(self.NAMES, self.PAIRS, {"a": 7, "b": 9, "c": 0, "d": 5}), 4)
        self.assertEqual(check_colours([], [], {}), 0)
        self.assertEqual(check_colours(["d", "b", "a", "c"], self.PAIRS, {"c": 4, "a": 0, "d": 0, "b": 1}), 3)

    def test_a_name_too_few_or_too_many_is_refused(self):
        for table in ({"a": 0, "b": 1, "c": 2}, {"a": 0, "b": 1, "c": 2, "d": 0, "e": 0}, {},
                      {"a": 0, "b": 1, "c": 2, "e": 0}):
            refused_unchanged(self, BadPaper, check_colours, self.NAMES, self.PAIRS, table)
            refused_unchanged(self, BadPaper, check_least, self.NAMES, self.PAIRS, table, ["a", "b", "c"])

    def test_alike_neighbours_are_refused(self):
        for table in ({"a": 0, "b": 0, "c": 2, "d": 0}, {"a": 0, "b": 1, "c": 2, "d": 2}):
            refused_unchanged(self, BadPaper, check_colours, self.NAMES, self.PAIRS, table)
            refused_unchanged(self, BadPaper, check_least, self.NAMES, self.PAIRS, table, ["a", "b", "c"])

    def test_check_least(self):
        table = {"a": 0, "b": 1, "c": 2, "d": 0}
        for lot in (["a", "b", "c"], ("c", "a", "b")):
            self.assertEqual(unchanged(self, check_least, self.NAMES, self.PAIRS, table, lot), 3)
        self.assertEqual(check_least([], [], {}, []), 0)

    def test_other_lots_are_refused(self):
        table = {"a": 0, "b": 1, "c": 2, "d": 0}
        for lot in (["a", "b"], ["a", "b", "c", "d"], ["a", "b", "b"], ["a", "b", "c", "c"], ["a", "b", "x"],
                    ["b", "c", "d"], []):
            refused_unchanged(self, BadPaper, check_least, self.NAMES, self.PAIRS, table, lot)
        more = {"a": 0, "b": 1, "c": 2, "d": 3}
        refused_unchanged(self, BadPaper, check_least, self.NAMES, self.PAIRS, more, ["a", "b", "c"])

    def test_taken_just_where_it_shows_what_is_so(self):
        for names, pairs in tried():
            least = fewest(names, pairs)
            shown = lots(names, pairs)
            for table in tables(names, 3):
                if not good(pairs, table):
                    self.assertRaises(BadPaper, check_colours, names, pairs, table)
                    continue
                many = len(set(table.values()))
                self.assertEqual(check_colours(names, pairs, table), many)
                for lot in itertools.combinations(names, many):
                    if lot in shown:
                        self.assertEqual(check_least(names, pairs, table, lot), least)
                    else:
                        self.assertRaises(BadPaper, check_least, names, pairs, table, lot)

    def test_papers_that_are_made_are_taken(self):
        for names, pairs in tried():
            table = coloured(names, pairs, fewest(names, pairs))
            self.assertEqual(check_colours(names, pairs, table), fewest(names, pairs))
            self.assertEqual(check_colours(names, pairs, greedy(names, pairs)), max(
                list(greedy(names, pairs).values()), default=-1) + 1)
            lot = all_neighbours(names, pairs)
            if len(lot) == fewest(names, pairs):
                self.assertEqual(check_least(names, pairs, table, lot), len(lot))


if __name__ == "__main__":
    unittest.main()
