"""Faces: steps cut where they meet, and the faces between them, each with its outer round and its holes."""

from borderwright.errors import BadPoint
from borderwright.parts import is_less, over, part, plus, sign_of, total
from borderwright.points import (
    apart, by_halves, each_once, ends_in_order, is_ahead, may_meet, meets, middle, near_pairs, side, turns_ahead,
)
from borderwright.rings import area, box, first_place, steps_of, where


def each_step(steps):
    """Return steps with their ends in order, each once, in order of starts, then ends; BadPoint for one to nowhere."""
    found = {}
    for start, end in steps:
        if start == end:
            raise BadPoint("a step goes nowhere")
        found[ends_in_order((start, end))] = True
    return in_rows(list(found))


def pieces_of(steps):
    """Return steps cut at all points where they meet, each piece once, ends in order, in order; BadPoint."""
    rows = each_step(steps)
    cuts = [[start, end] for start, end in rows]
    for one, other in near_pairs(rows):
        spots = spots_of(meets(rows[one], rows[other]))
        cuts[one].extend(spots)
        cuts[other].extend(spots)
    pieces = []
    for row in cuts:
        # The points of one step lie along it in order, as its ends do.
        spots = each_once(row)
        pieces.extend(list(zip(spots, spots[1:])))
    return tuple(each_step(pieces))


def spots_of(both):
    """Return the points at which two steps are cut, by what meets tells of them."""
    if both is None:
        return []
    kind, what = both
    if kind == "point":
        return [what]
    return list(what)


def in_rows(pieces):
    """Return pieces in order of their starts, then ends, by halves put together."""
    return by_halves(pieces, comes_first)


def comes_first(one, other):
    """Tell whether a piece comes ahead of another: by its start, then its end."""
    if is_ahead(one[0], other[0]):
        return True
    return not is_ahead(other[0], one[0]) and is_ahead(one[1], other[1])


def rounds_of(pieces):
    """Return all rounds: points gone along pieces both ways, turning as far left as can be, the face on the left."""
    follow = steps_behind(pieces)
    gone = set()
    found = []
    for start, end in pieces:
        for step in ((start, end), (end, start)):
            row = []
            here = step
            while here not in gone:
                gone.add(here)
                row.append(here[0])
                here = follow[here]
            if row != []:
                found.append(tuple(row))
    return tuple(found)


def steps_behind(pieces):
    """Return a table of steps, along pieces both ways, to the step by which one goes on as far left as can be."""
    ends = {}
    for start, end in pieces:
        ends.setdefault(start, []).append(end)
        ends.setdefault(end, []).append(start)
    found = {}
    for spot, row in ends.items():
        turned = turned_from(spot, row)
        for place, end in enumerate(turned):
            # Looked at from the way back, what is furthest left is the next one round to the right.
            found[(end, spot)] = (spot, turned[place - 1])
    return found


def turned_from(spot, ends):
    """Return the ends of steps from a point in order round to the left, from straight right on."""
    rows = [(apart(spot, end), end) for end in ends]
    return [end for _, end in by_halves(rows, turns_first)]


def turns_first(one, other):
    """Tell whether a row's step comes ahead of another row's, going round to the left."""
    return turns_ahead(one[0], other[0])


def faces_of(steps):
    """Return ((outer round, holes), ..) of all faces between steps, the greater lots' faces as they come; BadPoint."""
    rounds = [(row, area(row)) for row in rounds_of(pieces_of(steps))]
    outer = [(row, size) for row, size in rounds if sign_of(size) > 0]
    holes = [[] for _ in outer]
    for row, size in rounds:
        # What goes round to the right, or there and back, goes about a lot from outside.
        if sign_of(size) <= 0:
            place = least_about(row, outer)
            if place is not None:
                holes[place].append(row)
    return tuple([(row, tuple(mine)) for (row, _), mine in zip(outer, holes)])


def least_about(row, outer):
    """Return the place of the smallest of (outer round, size) within which a round lies, None for none."""
    best = None
    for place, (about, size) in enumerate(outer):
        if best is None or is_less(size, outer[best][1]):
            if lies_in(row, about):
                best = place
    return best


def lies_in(row, outer):
    """Tell whether a round lies wholly within another that it doesn't touch."""
    for spot in row:
        if where(outer, spot) != "in":
            return False
    # Its corners may lie within while a step between two of them goes out and comes back in.
    return not any([crosses(step, outer) for step in steps_of(row)])


def crosses(step, outer):
    """Tell whether a step has a point in common with a round's steps."""
    for other in steps_of(outer):
        if may_meet(step, other) and step[0] != step[1] and meets(step, other) is not None:
            return True
    return False


def face_area(face):
    """Return how great a face is without its holes."""
    outer, holes = face
    # Holes go round to the right, so that their sizes are below nought.
    return plus(area(outer), total([area(hole) for hole in holes]))


def inner_point(face):
    """Return a point strictly within a face, away from all its edges."""
    outer, holes = face
    place = first_place(outer)
    # At its first point in order a face surely bulges.
    before, spot, after = outer[place - 1], outer[place], outer[(place + 1) % len(outer)]
    best = None
    for row in (outer, *holes):
        for one in row:
            if one in (before, spot, after) or not in_corner(before, spot, after, one):
                continue
            if best is None or side_far(before, after, one, best):
                best = one
    if best is not None:
        return middle(spot, best)
    three = part(3)
    return tuple([over(plus(plus(before[k], spot[k]), after[k]), three) for k in range(2)])


def in_corner(before, spot, after, one):
    """Tell whether a point lies within three corners that turn left, or on their edges."""
    return min(side(before, spot, one), side(spot, after, one), side(after, before, one)) >= 0


def side_far(before, after, one, other):
    """Tell whether a point lies further right of a line between corners than another that lies there."""
    return is_less(area((before, other, after)), area((before, one, after)))


def in_face(face, spot):
    """Tell whether a point lies strictly within a face."""
    outer, holes = face
    return where(outer, spot) == "in" and all([where(hole, spot) == "out" for hole in holes])


def edges_of(face):
    """Return all steps round a face, its outer round first."""
    outer, holes = face
    found = list(steps_of(outer))
    for hole in holes:
        found.extend(list(steps_of(hole)))
    return tuple(found)


def outline(faces):
    """Return the box of all faces; BadRing for none."""
    return box([spot for outer, _ in faces for spot in outer])


def counts_of(steps):
    """Return (points, pieces, faces, lots that hang together) of steps; BadPoint."""
    pieces = pieces_of(steps)
    points = len({spot for piece in pieces for spot in piece})
    rounds = rounds_of(pieces)
    faces = len([row for row in rounds if sign_of(area(row)) > 0])
    # Each lot has just one round about it from outside, and the others are its faces' outer ones.
    return (points, len(pieces), faces, len(rounds) - faces)
