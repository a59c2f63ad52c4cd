import importlib
import inspect
import unittest

FUNCTIONS = {
    "parts": """
        shared(one, other)
        part(top, low=1)
        plus(one, other)
        minus(one, other)
        times(one, other)
        over(one, other)
        is_less(one, other)
        sign_of(one)
        size_of(one)
        total(parts)
        lesser(one, other)
        greater(one, other)
        told(one)
    """,
    "points": """
        point(x, y)
        check_point(one)
        apart(one, other)
        cross(first, second)
        side(start, end, spot)
        is_ahead(one, other)
        between(start, end, spot)
        middle(one, other)
        on_way(one, other, share)
        may_meet(one, other)
        meets(first, second)
        in_order(spots)
        each_once(spots)
        half(step)
        turns_ahead(first, second)
        square(one, other)
        shifted(spot, x, y)
        stride(one, other)
    """,
    "rings": """
        check_ring(corners)
        steps_of(ring)
        area(ring)
        to_left(ring)
        where(ring, spot)
        without_flat(ring)
        is_bulging(ring)
        heart(ring)
        box(spots)
        hull(spots)
        chain(row)
        clipped(ring, start, end)
        both_bulging(one, other)
        thin(ring)
        all_area(rings)
        same_ring(one, other)
        way_round(ring)
    """,
    "faces": """
        each_step(steps)
        pieces_of(steps)
        in_rows(pieces)
        comes_first(one, other)
        rounds_of(pieces)
        turned_from(spot, ends)
        faces_of(steps)
        lies_in(row, outer)
        face_area(face)
        inner_point(face)
        in_corner(before, spot, after, one)
        side_far(before, after, one, other)
        in_face(face, spot)
        edges_of(face)
        outline(faces)
        counts_of(steps)
    """,
    "maps": """
        sides_of(faces, owners)
        check_whole(made, outline)
        all_sizes(made)
    """,
    "overlays": """
        greatest_share(overlay, name)
        alike(overlay)
        same_map(one, other)
        check_names(made, names)
        only(made, names)
    """,
    "merges": """
        outer_steps(faces)
        rings_round(faces)
        in_ring_order(rings)
        comes_ahead(one, other)
        first_of(spots)
        tightest(before, here, ends)
        is_tighter(back, one, other)
        from_first(ring)
        merged(made, names, name)
        cut(made, name, start, end, left, right)
        whole_faces(faces)
        tidy(row)
        across(start, end, spots)
        biggest(made)
        filled_gaps(made)
    """,
    "cells": """
        check_rows(rows)
        square_face(x, y)
        map_of(rows)
        rows_of(made, wide, high)
        grown(rows)
        beside(x, y, wide, high)
        lots_of(rows)
        flipped(rows)
        fits_in(made, wide, high)
    """,
    "simples": """
        corner_size(ring, place)
        knots(made)
        corners_of(made)
        without(made, spot)
        check_free(ring, place, corners)
        simpler(made, most)
        count_corners(made)
        moved_size(one, other)
    """,
    "colours": """
        links_of(names, pairs)
        coloured(names, pairs, many)
        lay(links, names, place, many, found)
        fewest(names, pairs)
        check_colours(names, pairs, colours)
        all_neighbours(names, pairs)
        check_least(names, pairs, colours, lot)
        greedy(names, pairs)
        by_fewest(names, pairs)
        how_many(names, pairs, many)
    """,
    "labels": """
        fits(made, label)
        middle_of(ring)
        crosses_in(ring, step)
        good_labels(made, labels)
        most_labels(labels)
        may_stand(labels, row, place)
        check_labels(made, labels, row)
        bound_of(labels, lots)
        lots_for(labels)
    """,
    "triangles": """
        ears(ring)
        first_ear(row)
        in_three(three, spot)
        check_threes(ring, threes)
        in_round(three, spot)
        joined(spots)
        left_three(one, other, spot)
        tidy_hull(first, top)
        new_ring(ring, seen, spot)
        flipped_round(threes)
        is_round(threes, spots)
        roundest(spots)
        edges_in(threes)
        outer_size(spots)
    """,
    "nearest": """
        nearest(spots, spot)
        nearest_part(ring, spots, place)
        shared_out(ring, spots, names)
        two_nearest(spots)
        furthest(spots)
    """,
    "districts": """
        check_weights(names, links, weights)
        hangs(links, lot)
        all_cuts(names, links, many)
        uneven(weights, cut)
        evenest(names, links, weights, many)
        cut_edges(links, cut)
        check_cut(names, links, weights, cut, much)
        swapped(links, cut, weights)
        gone_over(cut, name, one, other)
        seats(votes, many)
        won(lots, sides)
    """,
    "boxes": """
        doubled(count)
        is_leaf(tree)
        code(x, y, depth)
        uncoded(number, depth)
        depth_of(tree)
    """,
    "shapes": """
        moved_by(x, y)
        stretched(by_x, by_y)
        quarter_turned(many)
        three_to_three(one, other)
        flat_change(three)
        turned_alike(one, other)
    """,
    "roads": """
        net_of(pieces)
        fars(net, start)
        way(net, start, end)
        way_length(net, row)
        check_way(net, row, table)
        all_joined(net)
        by_length(net, pieces)
        is_shorter(net, one, other)
        root(lots, one)
        whole_length(net, pieces)
    """,
    "heights": """
        check_heights(rows)
        squares_beside(rows, x, y)
        flows(rows)
        basins(rows)
        filled(rows)
        stands(rows)
        lakes(rows)
        drained(rows)
        moved_earth(rows, level)
        even_level(rows)
        crossings(rows, level)
        height_at(rows, x, y, right, up)
        highest(rows)
    """,
    "tracks": """
        check_track(row)
        on_step(start, end, spot)
        nearest_on(row, spot)
        whole_way(row)
        at_length(row, far)
        length_at(row, spot)
        fewer(row, most)
        far_from(start, end, spot)
        evenly(row, many)
    """,
    "desks": """
        number(word)
        letter(word)
        figure_of(text)
        lines_of(text)
        done_again(text)
    """,
}

METHODS = {
    ("maps", "Map"): """
        __init__(self, regions)
        covers(self, name, spot)
        rings(self, name)
        names(self)
        at(self, spot)
        area(self, name)
        whole(self)
        gaps(self)
        borders(self)
        neighbours(self)
        coast(self, name)
        parts(self, name)
        owner_of(self, spot)
        shown(self)
    """,
    ("overlays", "Overlay"): """
        __init__(self, one, other)
        areas(self)
        both(self, name, other)
        shares(self, name)
        carried(self, amounts)
        unlike(self)
    """,
    ("labels", "Label"): """
        __init__(self, name, spot, wide, high)
        ring(self)
        meets(self, other)
        shown(self)
    """,
    ("boxes", "Fours"): """
        __init__(self, depth, most)
        put(self, name, x, y)
        take(self, name)
        tree(self)
        cut(self, names, x, y, size)
        within(self, low_x, low_y, high_x, high_y)
        found(self, tree, x, y, size, box)
        nearest(self, x, y)
    """,
    ("shapes", "Change"): """
        __init__(self, parts)
        of(self, spot)
        by(self)
        behind(self, first)
        back(self)
        of_ring(self, ring)
        of_map(self, made)
        shown(self)
    """,
    ("desks", "Desk"): """
        __init__(self)
        say(self, line)
        do(self, line)
        here(self)
        paint(self, x, y, sign, words)
        let(self, rows, words)
        answer(self, words)
    """,
}


def listed(text):
    """Return (name, arguments) of the lines of a table."""
    return [line.strip().partition("(")[0::2] for line in text.strip().splitlines()]


class Interface(unittest.TestCase):
    def test_functions_are_defined_in_their_files_with_their_arguments(self):
        for place, text in FUNCTIONS.items():
            module = importlib.import_module("borderwright." + place)
            for name, arguments in listed(text):
                with self.subTest(place + "." + name):
                    found = vars(module)[name]
                    self.assertTrue(inspect.isfunction(found))
                    self.assertEqual(found.__module__, module.__name__)
                    self.assertEqual(str(inspect.signature(found)), "(" + arguments)

    def test_methods_are_defined_in_their_classes_with_their_arguments(self):
        for (place, kind), text in METHODS.items():
            module = importlib.import_module("borderwright." + place)
            made = vars(module)[kind]
            self.assertEqual((made.__module__, made.__bases__), (module.__name__, (object,)))
            for name, arguments in listed(text):
                with self.subTest(kind + "." + name):
                    found = vars(made)[name]
                    self.assertTrue(inspect.isfunction(found))
                    self.assertEqual(str(inspect.signature(found)), "(" + arguments)


if __name__ == "__main__":
    unittest.main()
