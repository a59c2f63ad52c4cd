"""Simples: borders with fewer corners, the ones between regions alike for both, and nothing crossed."""

from borderwright.errors import BadMap, BadSize
from borderwright.maps import Map
from borderwright.parts import is_less, lesser, minus, size_of
from borderwright.points import between, by_halves, in_order, side, starts_lower
from borderwright.rings import area


def three_about(ring, place):
    """Return the corner of a ring before a place, the one there, and the one behind it."""
    return (ring[place - 1], ring[place], ring[(place + 1) % len(ring)])


def corner_size(ring, place):
    """Return how great the three corners about a place are."""
    return size_of(area(three_about(ring, place)))


def knots(made):
    """Return the corners at which three pieces of border or more meet, each once, in order."""
    counts = {}
    for piece in made.borders():
        for spot in piece:
            counts[spot] = counts.get(spot, 0) + 1
    return tuple(in_order([spot for spot, many in counts.items() if many != 2]))


def all_rings(made):
    """Return the rings of all regions of a map, in order of the regions."""
    return [ring for name in made.names() for ring in made.rings(name)]


def corners_of(made):
    """Return a table of corners to the smallest corner_size of rings that have them, in order of the regions."""
    found = {}
    for ring in all_rings(made):
        for place, spot in enumerate(ring):
            size = corner_size(ring, place)
            found[spot] = lesser(found.get(spot, size), size)
    return found


def without(made, spot):
    """Return the map without a corner in all rings that have it; BadMap for a knot, or another corner cut off."""
    if spot in knots(made):
        raise BadMap("the corner is a knot")
    if any([len(ring) == 3 and spot in ring for ring in made.gaps()]):
        raise BadMap("a gap of three corners has the corner")
    corners = list({corner: True for ring in all_rings(made) for corner in ring})
    found = {}
    for name in made.regions:
        found[name] = [ring_without(ring, spot, corners) for ring in made.rings(name)]
    return Map(found)


def ring_without(ring, spot, corners):
    """Return a ring without a corner that it may have; BadMap where it may not go."""
    if spot not in ring:
        return ring
    place = ring.index(spot)
    check_free(ring, place, corners)
    return ring[:place] + ring[place + 1:]


def check_free(ring, place, corners):
    """Refuse with BadMap a place whose three corners have another corner within or on them, or whose ring is three."""
    if len(ring) == 3:
        raise BadMap("a ring of three corners")
    three = three_about(ring, place)
    turn = side(three[0], three[1], three[2])
    for spot in corners:
        if spot not in three and cuts_off(three, turn, spot):
            raise BadMap("another corner would be cut off")


def cuts_off(three, turn, spot):
    """Tell whether a point lies within three corners that turn so, or on them."""
    if turn == 0:
        return between(three[0], three[2], spot)
    return all([turn * side(three[k - 1], three[k], spot) >= 0 for k in range(3)])


def simpler(made, most):
    """Return the map without corners of no more than a told size, the least first, where it may be; BadSize."""
    if most[0] < 0:
        raise BadSize("a size below nought")
    found = made
    after = made
    while after is not None:
        found = after
        after = one_fewer(found, most)
    return found


def one_fewer(made, most):
    """Return the map without the least corner, no greater than told, that may go; None where none may."""
    # Most of what may not go is a knot; these are left out before all else is looked at.
    tied = {spot: True for spot in knots(made)}
    sizes = corners_of(made)
    rows = [(size, spot) for spot, size in sizes.items() if spot not in tied and not is_less(most, size)]
    for _, spot in by_halves(rows, starts_lower):
        try:
            return without(made, spot)
        except BadMap:
            pass
    return None


def count_corners(made):
    """Return how many corners all rings have, those of two rings twice."""
    return sum([len(ring) for ring in all_rings(made)])


def moved_size(one, other):
    """Return ((name, by how much another map's region is greater than a map's), ..), in order of names; NoSuch."""
    return tuple([(name, minus(other.area(name), one.area(name))) for name in one.names()])
