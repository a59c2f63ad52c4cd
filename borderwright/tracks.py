"""Tracks: rows of points gone along: the nearest point of them, places by their length, and fewer points."""

from borderwright.errors import BadPoint, BadSize
from borderwright.parts import NOUGHT, ONE, greater, is_less, lesser, minus, over, plus, times
from borderwright.points import apart, on_way, square, stride


def check_track(row):
    """Return a row of two points or more, no two on end alike; BadPoint."""
    found = tuple(row)
    if len(found) < 2 or any([one == other for one, other in zip(found, found[1:])]):
        raise BadPoint("fewer than two points, or alike ones on end")
    return found


def on_step(start, end, spot):
    """Return the point of a step nearest to a point."""
    x, y = apart(start, end)
    aside, up = apart(start, spot)
    share = over(plus(times(aside, x), times(up, y)), plus(times(x, x), times(y, y)))
    return on_way(start, end, lesser(greater(share, NOUGHT), ONE))


def nearest_on(row, spot):
    """Return (square of how far, step's place, point) of a track's point nearest to one, the first such; BadPoint."""
    found = check_track(row)
    best = None
    for place, (start, end) in enumerate(zip(found, found[1:])):
        here = on_step(start, end, spot)
        far = square(here, spot)
        if best is None or is_less(far, best[0]):
            best = (far, place, here)
    return best


def whole_way(row):
    """Return how long a track is; BadPoint."""
    return length_of(check_track(row))


def length_of(row):
    """Return how long the way along a row of points is, nought for fewer than two."""
    found = NOUGHT
    for start, end in zip(row, row[1:]):
        found = plus(found, stride(start, end))
    return found


def at_length(row, far):
    """Return the point of a track so far along it, its end past it; BadPoint, BadSize below nought."""
    if far[0] < 0:
        raise BadSize("a length below nought")
    found = check_track(row)
    left = far
    for start, end in zip(found, found[1:]):
        long = stride(start, end)
        if not is_less(long, left):
            return on_way(start, end, over(left, long))
        left = minus(left, long)
    return found[-1]


def length_at(row, spot):
    """Return how far along a track its point nearest to one is, the first of such; BadPoint."""
    found = check_track(row)
    _, place, here = nearest_on(found, spot)
    return plus(length_of(found[:place + 1]), stride(found[place], here))


def fewer(row, most):
    """Return a track's ends and, furthest first, the points needed so that none left out is further off by the square.

    BadPoint for no track.
    """
    found = check_track(row)
    kept = [0, len(found) - 1]
    waiting = [(0, len(found) - 1)]
    while waiting != []:
        low, high = waiting.pop()
        place = furthest_off(found, low, high, most)
        if place is not None:
            kept.append(place)
            waiting.append((low, place))
            waiting.append((place, high))
    return tuple([found[place] for place in sorted(kept)])


def furthest_off(row, low, high, most):
    """Return the first place between two from whose step a point is furthest, None for none further than told."""
    best = None
    limit = most
    for place in range(low + 1, high):
        far = far_from(row[low], row[high], row[place])
        if is_less(limit, far):
            best, limit = place, far
    return best


def far_from(start, end, spot):
    """Return the square of how far a point is from a step, or from the point that it goes from and to."""
    if start == end:
        return square(start, spot)
    return square(on_step(start, end, spot), spot)


def evenly(row, many):
    """Return so many points along a track, evenly by length, its first and last too; BadPoint, BadSize below two."""
    if many < 2:
        raise BadSize("fewer than two points")
    whole = whole_way(row)
    return tuple([at_length(row, times(whole, (place, many - 1))) for place in range(many)])
