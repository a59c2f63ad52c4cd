"""Roads: ways along pieces between points, as long as their steps aside and up together, shortest ones by papers."""

from borderwright.errors import BadPaper, BadPoint, BadSize, NoSuch
from borderwright.faces import comes_first
from borderwright.parts import NOUGHT, is_less, lesser, plus
from borderwright.points import by_halves, ends_in_order, is_ahead, stride


def net_of(pieces):
    """Return a table of points to tables of points beside them to lengths; BadPoint."""
    found = {}
    for start, end in pieces:
        if start == end:
            raise BadPoint("a piece goes nowhere")
        for one, other in ((start, end), (end, start)):
            beside = found.setdefault(one, {})
            beside[other] = stride(one, other)
    return found


def fars(net, start):
    """Return a table of points that can be come to, to the least lengths from a start; NoSuch."""
    if start not in net:
        raise NoSuch("no such start")
    found = {}
    waiting = {start: NOUGHT}
    while waiting != {}:
        here = nearest_in(waiting)
        found[here] = waiting.pop(here)
        for other, more in net[here].items():
            if other not in found:
                far = plus(found[here], more)
                waiting[other] = lesser(waiting.get(other, far), far)
    return found


def nearest_in(table):
    """Return the point that has the least length in a table."""
    best = None
    for spot, far in table.items():
        if best is None or is_less(far, table[best]):
            best = spot
    return best


def way(net, start, end):
    """Return the points of a shortest way, None for none, the first of as good points back each time; NoSuch."""
    if end not in net:
        raise NoSuch("no such end")
    table = fars(net, start)
    if end not in table:
        return None
    found = [end]
    while found[-1] != start:
        found.append(point_back(net, table, found[-1]))
    return tuple(found[::-1])


def point_back(net, table, here):
    """Return the first point in order from which a shortest way, by a table of lengths, comes to a point."""
    best = None
    for spot, more in net[here].items():
        if plus(table[spot], more) == table[here] and (best is None or is_ahead(spot, best)):
            best = spot
    return best


def way_length(net, row):
    """Return how long a way is; NoSuch for points that no piece joins."""
    found = NOUGHT
    for one, other in zip(row, row[1:]):
        if other not in net.get(one, {}):
            raise NoSuch("no piece joins two points")
        found = plus(found, net[one][other])
    return found


def check_way(net, row, table):
    """Return a way's length that a table shows to be least: no piece is shorter than its rise; BadPaper, NoSuch."""
    if len(row) == 0 or table.get(row[0]) != NOUGHT:
        raise BadPaper("a bare way, or one whose start isn't at nought")
    for one in net:
        for other, far in net[one].items():
            if one in table and (other not in table or is_less(plus(table[one], far), table[other])):
                raise BadPaper("a piece that is shorter than its rise")
    whole = way_length(net, row)
    if table.get(row[-1]) != whole:
        raise BadPaper("a way that isn't as long as its end tells")
    return whole


def all_joined(net):
    """Return the pieces, least in all, that join all points that hang together, shorter ones first, then in order."""
    pieces = {ends_in_order((one, other)): True for one in net for other in net[one]}
    lots = {spot: spot for spot in net}
    counts = {spot: 1 for spot in net}
    found = []
    for start, end in by_length(net, list(pieces)):
        one, other = root(lots, start), root(lots, end)
        if one != other:
            found.append((start, end))
            # The smaller lot goes to the greater one, so that roots are never far.
            if counts[one] > counts[other]:
                one, other = other, one
            lots[one] = other
            counts[other] += counts[one]
    return tuple(found)


def by_length(net, pieces):
    """Return pieces by lengths, then by their ends in order."""
    return by_halves(pieces, lambda one, other: is_shorter(net, one, other))


def is_shorter(net, one, other):
    """Tell whether a piece comes ahead of another: by length, then by its start, then by its end."""
    mine, others = net[one[0]][one[1]], net[other[0]][other[1]]
    if is_less(mine, others):
        return True
    return not is_less(others, mine) and comes_first(one, other)


def root(lots, one):
    """Return the point that stands for a point's lot."""
    found = one
    while lots[found] != found:
        found = lots[found]
    return found


def whole_length(net, pieces):
    """Return how long pieces are in all; BadSize for one that isn't there."""
    found = NOUGHT
    for one, other in pieces:
        if other not in net.get(one, {}):
            raise BadSize("a piece that isn't there")
        found = plus(found, net[one][other])
    return found
