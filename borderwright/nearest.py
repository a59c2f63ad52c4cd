"""Nearest: which of some points is nearest, and a ring cut into what is nearest to each."""

from borderwright.errors import BadSize
from borderwright.maps import Map
from borderwright.parts import NOUGHT, is_less, minus, plus
from borderwright.points import apart, each_once, middle, square
from borderwright.rings import check_ring, clipped, is_bulging, to_left, without_flat


def nearest(spots, spot):
    """Return the places of the points nearest to one, in order; BadSize for none."""
    if len(spots) == 0:
        raise BadSize("no points")
    squares = [square(one, spot) for one in spots]
    least = squares[0]
    for far in squares:
        if is_less(far, least):
            least = far
    return tuple([place for place, far in enumerate(squares) if far == least])


def nearest_part(ring, spots, place):
    """Return what of a bulging ring is nearest to one of some points, None for nothing; BadSize for alike points."""
    if len(each_once(spots)) != len(spots) or not 0 <= place < len(spots):
        raise BadSize("alike points, or a place that isn't there")
    here = to_left(check_ring(ring))
    if not is_bulging(here):
        raise BadSize("the ring doesn't bulge")
    for number, other in enumerate(spots):
        if number != place:
            start, end = line_between(spots[place], other)
            here = clipped(here, start, end)
            if here is None:
                return None
    return to_left(without_flat(here))


def line_between(one, other):
    """Return a step of the line as far from one point as from another, the first point on its left."""
    start = middle(one, other)
    x, y = apart(one, other)
    return (start, (minus(start[0], y), plus(start[1], x)))


def shared_out(ring, spots, names):
    """Return the map of a bulging ring in which each name has what is nearest to its point; BadSize."""
    if len(spots) != len(names) or len({name: True for name in names}) != len(names):
        raise BadSize("another count of names, or alike ones")
    found = {}
    for place, name in enumerate(names):
        mine = nearest_part(ring, spots, place)
        found[name] = [] if mine is None else [mine]
    return Map(found)


def two_nearest(spots):
    """Return the (lower, upper) places of the two points nearest each other, the first of such; BadSize below two."""
    best = None
    least = NOUGHT
    for lower, upper, far in pairs_apart(spots):
        if best is None or is_less(far, least):
            best, least = (lower, upper), far
    if best is None:
        raise BadSize("fewer than two points")
    return best


def furthest(spots):
    """Return the (lower, upper) places of the two points furthest from each other, the first of such; BadSize."""
    best = None
    most = NOUGHT
    for lower, upper, far in pairs_apart(spots):
        if best is None or is_less(most, far):
            best, most = (lower, upper), far
    if best is None:
        raise BadSize("fewer than two points")
    return best


def pairs_apart(spots):
    """Return (lower place, upper place, square of how far they are apart) of all pairs of points, in order."""
    many = len(spots)
    return [(lower, upper, square(spots[lower], spots[upper]))
            for lower in range(many) for upper in range(lower + 1, many)]
