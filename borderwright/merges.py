"""Merges: regions put together, cut in two, and lines between them told as rings."""

from borderwright.errors import BadMap, BadPoint, BadRing
from borderwright.faces import edges_of, faces_of, inner_point
from borderwright.maps import Map
from borderwright.overlays import check_names
from borderwright.parts import NOUGHT, ONE, greater, is_less, lesser, minus, over, plus, times
from borderwright.points import apart, by_halves, ends_in_order, is_ahead, on_way, side, turns_ahead
from borderwright.rings import first_place, steps_of, without_flat


def outer_steps(faces):
    """Return the steps round faces that no other of them has the other way, the faces on the left."""
    steps = {step: True for face in faces for step in edges_of(face)}
    return tuple([(start, end) for start, end in steps if (end, start) not in steps])


def rings_round(faces):
    """Return rings round faces: outer ones to the left, holes to the right, no flat corners, in order."""
    ends = {}
    for start, end in outer_steps(faces):
        ends.setdefault(start, []).append(end)
    found = []
    for start in list(ends):
        while ends[start] != []:
            found.extend(loops_from(start, ends))
    return tuple(in_ring_order([from_first(without_flat(row)) for row in found]))


def loops_from(start, ends):
    """Return the loops gone from a point till one is back at it; the steps that were gone are taken out of ends."""
    found = []
    row = [start]
    places = {start: 0}
    before = None
    place = 1
    while place > 0:
        here = row[-1]
        after = tightest(before, here, ends[here])
        ends[here].remove(after)
        before = here
        place = places.setdefault(after, len(row))
        if place == len(row):
            row.append(after)
        else:
            # A loop parts from the rest where it comes to a corner again.
            found.append(row[place:])
            for spot in row[place + 1:]:
                places.pop(spot)
            row = row[:place + 1]
    return found


def in_ring_order(rings):
    """Return rings in order of their first corners, alike ones of their second ones."""
    return by_halves(rings, comes_ahead)


def comes_ahead(one, other):
    """Tell whether a ring comes ahead of another: by its first corner, then its second."""
    if is_ahead(one[0], other[0]):
        return True
    return not is_ahead(other[0], one[0]) and is_ahead(one[1], other[1])


def first_of(spots):
    """Return the first point in order."""
    return spots[first_place(spots)]


def tightest(before, here, ends):
    """Return the end of the step that comes first going round to the right from the way back; the first at a start."""
    best = ends[0]
    if before is None:
        return best
    back = apart(here, before)
    for end in ends[1:]:
        if is_tighter(back, apart(here, end), apart(here, best)):
            best = end
    return best


def is_tighter(back, one, other):
    """Tell whether a step comes ahead of another, going round to the right from the way back."""
    # To the right of the way back lie first those that come ahead of it from straight right on.
    first, second = turns_ahead(one, back), turns_ahead(other, back)
    if first != second:
        return first
    return turns_ahead(other, one)


def from_first(ring):
    """Return a ring, as it goes round, from its first point in order on."""
    row = tuple(ring)
    place = first_place(row)
    return row[place:] + row[:place]


def merged(made, names, name):
    """Return the map in which some regions are one, by a new name; BadSize, BadMap for a name that stays."""
    mine = check_names(made, names)
    faces = [face for one in mine for face in made.parts(one)]
    rest = {other: made.rings(other) for other in made.names() if other not in mine}
    if name in rest or mine == ():
        raise BadMap("a name that stays, or nothing to merge")
    rest[name] = rings_round(faces)
    return Map(rest)


def cut(made, name, start, end, left, right):
    """Return the map in which a region is two by a line, left and right of it, by new names; NoSuch, BadMap."""
    if start == end:
        raise BadPoint("a line to nowhere")
    rings = made.rings(name)
    rest = {other: made.rings(other) for other in made.names() if other != name}
    if left in rest or right in rest or left == right:
        raise BadMap("a name that stays, or one name for both sides")
    line = across(start, end, [spot for ring in rings for spot in ring])
    steps = [step for ring in rings for step in steps_of(ring)]
    sides = ([], [])
    for face in whole_faces(faces_of([*steps, line])):
        spot = inner_point(face)
        if made.covers(name, spot):
            sides[0 if side(start, end, spot) > 0 else 1].append(face)
    if sides[0] == [] or sides[1] == []:
        raise BadMap("the line has nothing of the region on one side")
    rest[left] = rings_round(sides[0])
    rest[right] = rings_round(sides[1])
    return Map(rest)


def whole_faces(faces):
    """Return faces whose rounds don't go back along themselves: ends that hang loose are left out."""
    found = []
    for outer, holes in faces:
        about = tidy(outer)
        within = [tidy(hole) for hole in holes]
        if about != ():
            found.append((about, tuple([hole for hole in within if hole != ()])))
    return found


def tidy(row):
    """Return a round without steps gone there and back, () for fewer than three left."""
    found = []
    for spot in row:
        if len(found) > 1 and found[-2] == spot:
            found.pop()
        else:
            found.append(spot)
    # A loose end may also hang where the round begins.
    while len(found) > 2 and (found[-2] == found[0] or found[-1] == found[1]):
        if found[-2] == found[0]:
            found = found[:-2]
        else:
            found = found[1:-1]
    if len(found) < 3:
        return ()
    return tuple(found)


def across(start, end, spots):
    """Return a step along a line that goes past all points."""
    x, y = apart(start, end)
    whole = plus(times(x, x), times(y, y))
    low, high = NOUGHT, ONE
    for spot in spots:
        aside, up = apart(start, spot)
        share = over(plus(times(aside, x), times(up, y)), whole)
        low, high = lesser(low, share), greater(high, share)
    return (on_way(start, end, minus(low, ONE)), on_way(start, end, plus(high, ONE)))


def biggest(made):
    """Return the name of the greatest region, the first of as great ones; BadRing for none."""
    best = None
    most = NOUGHT
    for name in made.names():
        size = made.area(name)
        if best is None or is_less(most, size):
            best, most = name, size
    if best is None:
        raise BadRing("no regions")
    return best


def filled_gaps(made):
    """Return the map in which each gap goes to the region with most pieces of its border, the first of alike ones."""
    lots = {name: list(made.parts(name)) for name in made.names()}
    for face, owner in zip(made.faces, made.owners):
        if owner is None:
            name = most_beside(made, face)
            # A gap within gaps alone has a border with no region.
            if name is not None:
                lots[name].append(face)
    return Map({name: rings_round(faces) for name, faces in lots.items()})


def most_beside(made, face):
    """Return the region with most pieces of a gap's border, the first of alike ones, None for none."""
    counts = {}
    for step in edges_of(face):
        for name in made.sides[ends_in_order(step)]:
            if name is not None:
                counts[name] = counts.get(name, 0) + 1
    best = None
    for name in sorted(counts):
        if best is None or counts[name] > counts[best]:
            best = name
    return best
