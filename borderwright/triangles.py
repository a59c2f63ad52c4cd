"""Triangles: rings cut in threes of corners, points joined by threes, and flips to the roundest ones."""

from borderwright.errors import BadPaper, BadRing
from borderwright.parts import minus, plus, sign_of, times
from borderwright.points import apart, between, each_once, ends_in_order, side
from borderwright.rings import area, corners_in_turn, hull, steps_of, to_left


def ears(ring):
    """Return a ring's cut in threes of corners, the first ear in order each time; BadRing for one that can't be cut."""
    row = list(to_left(ring))
    found = []
    while len(row) > 2:
        place = first_ear(row)
        three = corners_in_turn(row)[place]
        # Where the ring goes straight on there is nothing to cut.
        if side(three[0], three[1], three[2]) != 0:
            found.append(three)
        row.pop(place)
    if found == []:
        raise BadRing("a ring with nothing to cut")
    return tuple(found)


def first_ear(row):
    """Return the first place whose three corners turn left, or go straight, with no other corner within; BadRing."""
    for place, three in enumerate(corners_in_turn(row)):
        turn = side(three[0], three[1], three[2])
        if turn == 0:
            return place
        if turn > 0 and not any([in_three(three, spot) for spot in row if spot not in three]):
            return place
    raise BadRing("no ear")


def in_three(three, spot):
    """Tell whether a point lies within three corners that turn left, edges too."""
    return all([side(three[k - 1], three[k], spot) >= 0 for k in range(3)])


def check_threes(ring, threes):
    """Return how many threes cut a ring: its corners, turning left, all edges but its own both ways; BadPaper."""
    pieces = {}
    for three in threes:
        if len(three) != 3 or any([spot not in ring for spot in three]) or side(three[0], three[1], three[2]) <= 0:
            raise BadPaper("no three of the ring's corners that turn left")
        for start, end in steps_of(three):
            for one, other in cut_at(ring, start, end):
                if (one, other) in pieces:
                    raise BadPaper("threes overlap")
                # What is gone both ways lies between two threes and is left out.
                if (other, one) in pieces:
                    pieces.pop((other, one))
                else:
                    pieces[(one, other)] = True
    if pieces != {step: True for step in steps_of(to_left(ring))}:
        raise BadPaper("an edge that is not the ring's, or one of the ring's is not there")
    return len(threes)


def cut_at(ring, start, end):
    """Return a step cut at all corners of a ring that lie on it, as the step goes."""
    spots = each_once([start, end] + [spot for spot in ring if between(start, end, spot)])
    if spots[0] != start:
        spots = spots[::-1]
    return list(zip(spots, spots[1:]))


def in_round(three, spot):
    """Return one for a point within the round through three corners that turn left, nought on it, minus one out."""
    rows = []
    for corner in three:
        x, y = apart(spot, corner)
        rows.append((x, y, plus(times(x, x), times(y, y))))
    one, other, third = rows
    turn = plus(times(one[2], turned_by(other, third)), times(other[2], turned_by(third, one)))
    return sign_of(plus(turn, times(third[2], turned_by(one, other))))


def turned_by(one, other):
    """Return how much two rows turn by what stands first and second in them."""
    return minus(times(one[0], other[1]), times(one[1], other[0]))


def joined(spots):
    """Return points joined by threes, each point in order joined to those it sees; BadRing for points in one line."""
    row = each_once(spots)
    if len(row) < 3 or all([side(row[0], row[1], spot) == 0 for spot in row]):
        raise BadRing("all points lie in one line")
    many = 2
    while side(row[0], row[1], row[many]) == 0:
        many += 1
    first, top = row[:many], row[many]
    found = [left_three(one, other, top) for one, other in zip(first, first[1:])]
    ring = tidy_hull(first, top)
    for spot in row[many + 1:]:
        seen = [(start, end) for start, end in steps_of(ring) if side(start, end, spot) < 0]
        found.extend([left_three(start, end, spot) for start, end in seen])
        ring = new_ring(ring, seen, spot)
    return tuple(found)


def left_three(one, other, spot):
    """Return three corners turning left, the first two exchanged where they turn right."""
    if side(one, other, spot) < 0:
        return (other, one, spot)
    return (one, other, spot)


def tidy_hull(first, top):
    """Return the ring, to the left, of points in a line and one off it, the line's first or last point first."""
    if side(first[0], first[-1], top) > 0:
        return [*first, top]
    return [*first[::-1], top]


def new_ring(ring, seen, spot):
    """Return a ring in which the steps that a point sees are gone round by it, from the ring's first corner left on."""
    hidden = {step: True for step in seen}
    found = []
    for before, corner, after in corners_in_turn(ring):
        came, goes = (before, corner) in hidden, (corner, after) in hidden
        if not (came and goes):
            found.append(corner)
        if goes and not came:
            found.append(spot)
    return found


def flipped_round(threes):
    """Return threes flipped, edge by edge, till no point lies within the round of another three beside it."""
    found = [tuple(three) for three in threes]
    places = {}
    for place, three in enumerate(found):
        for step in steps_of(three):
            places[step] = place
    flipped = True
    while flipped:
        flipped = False
        for start, end in list(places):
            if flip_at(found, places, start, end):
                flipped = True
    return tuple(found)


def flip_at(threes, places, start, end):
    """Flip the edge between two threes where a corner lies within the other's round; tell whether it was done."""
    if (start, end) not in places or (end, start) not in places:
        return False
    place, other = places[(start, end)], places[(end, start)]
    left, right = corner_off(threes[place], start, end), corner_off(threes[other], start, end)
    if in_round(threes[place], right) <= 0:
        return False
    places.pop((start, end))
    places.pop((end, start))
    threes[place] = (start, right, left)
    threes[other] = (right, end, left)
    for number in (place, other):
        for step in steps_of(threes[number]):
            places[step] = number
    return True


def corner_off(three, start, end):
    """Return the corner of a three that is not at an end of one of its edges."""
    return [spot for spot in three if spot not in (start, end)][0]


def is_round(threes, spots):
    """Tell whether no point lies within the round through any three."""
    return not any([in_round(three, spot) > 0 for three in threes for spot in spots])


def roundest(spots):
    """Return points joined by threes with no point within any three's round; BadRing."""
    return flipped_round(joined(spots))


def edges_in(threes):
    """Return all edges of threes, (point, point), each once."""
    return tuple({ends_in_order(step): True for three in threes for step in steps_of(three)})


def outer_size(spots):
    """Return how great the hull of points is; BadRing."""
    return area(hull(spots))
