"""Rings: corners in order, without crossing: how great, which way round, and what lies within."""

from borderwright.errors import BadRing
from borderwright.parts import (
    NOUGHT, TWO, greater, is_less, lesser, minus, over, part, plus, sign_of, size_of, times, total,
)
from borderwright.points import (
    apart, between, check_point, cross, each_once, is_ahead, meets, near_pairs, on_way, side,
)


def check_ring(corners):
    """Return a ring's corners, made small, where it has three at least and doesn't touch or cross itself; BadRing."""
    ring = tuple([check_point(corner) for corner in corners])
    many = len(ring)
    if many < 3 or len(each_once(ring)) != many:
        raise BadRing("too few corners, or one twice")
    steps = steps_of(ring)
    for one, other in near_pairs(steps):
        if other - one == 1:
            check_following(steps[one], steps[other], many)
        elif one == 0 and other == many - 1:
            check_following(steps[other], steps[one], many)
        elif meets(steps[one], steps[other]) is not None:
            raise BadRing("the ring meets itself")
    return ring


def check_following(first, last, many):
    """Refuse with BadRing two steps of a ring, one behind the other, that have more than a corner in common."""
    if side(first[0], first[1], last[1]) != 0:
        return
    if many == 3 or meets(first, last)[0] == "step":
        raise BadRing("the ring goes back along itself")


def steps_of(ring):
    """Return a ring's steps, (start, end), from its first corner on."""
    return tuple([(spot, ring[(place + 1) % len(ring)]) for place, spot in enumerate(ring)])


def corners_in_turn(ring):
    """Return (corner before, corner, corner behind) for all corners of a ring, from its first one on."""
    return [(ring[place - 1], spot, ring[(place + 1) % len(ring)]) for place, spot in enumerate(ring)]


def area(ring):
    """Return how great a ring is, below nought where it goes round to the right."""
    return over(total([cross(start, end) for start, end in steps_of(ring)]), TWO)


def first_place(ring):
    """Return the place of a ring's first point in order, the first such place."""
    found = 0
    for place, spot in enumerate(ring):
        if is_ahead(spot, ring[found]):
            found = place
    return found


def to_left(ring):
    """Return a ring going round to the left, from its first point in order on."""
    row = tuple(ring)
    if sign_of(area(row)) < 0:
        row = row[::-1]
    place = first_place(row)
    return row[place:] + row[:place]


def where(ring, spot):
    """Return "in", "on" or "out" for a point and a ring."""
    inside = False
    for start, end in steps_of(ring):
        turn = side(start, end, spot)
        if turn == 0 and between(start, end, spot):
            return "on"
        # A way straight right from the point crosses the step; a start level with it doesn't count as above.
        above = is_less(spot[1], end[1])
        if is_less(spot[1], start[1]) != above and (turn > 0) == above:
            inside = not inside
    return "in" if inside else "out"


def without_flat(ring):
    """Return a ring without the corners at which it goes straight on; BadRing for fewer than three left."""
    found = [spot for before, spot, after in corners_in_turn(ring) if side(before, spot, after) != 0]
    if len(found) < 3:
        raise BadRing("a flat ring")
    return tuple(found)


def is_bulging(ring):
    """Tell whether a ring turns one way at all its corners, or goes straight on."""
    turns = [side(before, spot, after) for before, spot, after in corners_in_turn(ring)]
    return 1 not in turns or -1 not in turns


def heart(ring):
    """Return a ring's balance point; BadRing for a flat one."""
    whole = area(ring)
    if whole[0] == 0:
        raise BadRing("a flat ring has no balance point")
    rows = [(start, end, cross(start, end)) for start, end in steps_of(ring)]
    x = total([times(plus(start[0], end[0]), turn) for start, end, turn in rows])
    y = total([times(plus(start[1], end[1]), turn) for start, end, turn in rows])
    six = times(part(6), whole)
    return (over(x, six), over(y, six))


def box(spots):
    """Return the (lowest x, lowest y, highest x, highest y) of points; BadRing for none."""
    if len(spots) == 0:
        raise BadRing("no points have no box")
    low_x, low_y = spots[0]
    high_x, high_y = spots[0]
    for x, y in spots:
        low_x, low_y = lesser(low_x, x), lesser(low_y, y)
        high_x, high_y = greater(high_x, x), greater(high_y, y)
    return (low_x, low_y, high_x, high_y)


def hull(spots):
    """Return the corners of the least bulging ring about points, to the left, from the first on; BadRing if flat."""
    row = each_once(spots)
    found = chain(row)[:-1] + chain(row[::-1])[:-1]
    if len(found) < 3:
        raise BadRing("all points lie in a line")
    return tuple(found)


def chain(row):
    """Return points of a row in order at which one turns left each time, the first and last too."""
    found = []
    for spot in row:
        while len(found) > 1 and side(found[-2], found[-1], spot) <= 0:
            found.pop()
        found.append(spot)
    return found


def clipped(ring, start, end):
    """Return a bulging ring's part left of a step's line, None for nothing but edges; BadRing for another ring."""
    if not is_bulging(ring):
        raise BadRing("the ring doesn't bulge")
    found = []
    for here, after in steps_of(ring):
        turn = side(start, end, here)
        if turn >= 0:
            found.append(here)
        if turn * side(start, end, after) < 0:
            found.append(crossing(start, end, here, after))
    if area(found) == NOUGHT:
        return None
    return tuple(found)


def crossing(start, end, one, other):
    """Return the point between two, on different sides of a step's line, that lies on the line."""
    way = apart(start, end)
    far = cross(way, apart(start, one))
    return on_way(one, other, over(far, minus(far, cross(way, apart(start, other)))))


def both_bulging(one, other):
    """Return what two bulging rings both cover, to the left, None for nothing but edges; BadRing."""
    if not is_bulging(other):
        raise BadRing("the ring doesn't bulge")
    found = to_left(one)
    for start, end in steps_of(to_left(other)):
        found = clipped(found, start, end)
        if found is None:
            return None
    return to_left(without_flat(found))


def thin(ring):
    """Return a ring's size by the square of its box's greater side."""
    low_x, low_y, high_x, high_y = box(ring)
    wide = greater(minus(high_x, low_x), minus(high_y, low_y))
    return over(size_of(area(ring)), times(wide, wide))


def all_area(rings):
    """Return the sum of rings' sizes, ways round aside."""
    return total([size_of(area(ring)) for ring in rings])


def same_ring(one, other):
    """Tell whether two rings have the same corners in the same round, either way."""
    # A flat ring goes round neither way, so that it is looked at backward too.
    row = to_left(one)
    return row == to_left(other) or row == to_left(other[::-1])


def way_round(ring):
    """Return one for a ring that goes round to the left, minus one for one to the right, nought for a flat one."""
    return sign_of(area(ring))
