"""Heights: squares with heights: where water goes and stands, lines of one height, and what is dug and filled."""

from heapq import heappop, heappush

from borderwright.cells import beside
from borderwright.errors import BadSize
from borderwright.parts import over, part, plus
from borderwright.points import on_way, point


def check_heights(rows):
    """Return rows of whole heights, all alike in length; BadSize."""
    found = tuple([tuple(row) for row in rows])
    if found == () or found[0] == () or any([len(row) != len(found[0]) for row in found]):
        raise BadSize("no rows, bare ones, or rows of unlike lengths")
    return found


def squares_in(rows):
    """Return all squares of rows, in order."""
    return [(x, y) for x in range(len(rows[0])) for y in range(len(rows))]


def squares_beside(rows, x, y):
    """Return the squares that share a side with one, in order."""
    return beside(x, y, len(rows[0]), len(rows))


def flows(rows):
    """Return a table of squares to the lowest, lower one beside, the first of such, None for none; BadSize."""
    old = check_heights(rows)
    return {(x, y): lowest_beside(old, x, y) for x, y in squares_in(old)}


def lowest_beside(rows, x, y):
    """Return the lowest square beside one that is lower than it, the first of such, None for none."""
    best = None
    least = rows[y][x]
    for aside, up in squares_beside(rows, x, y):
        if rows[up][aside] < least:
            best, least = (aside, up), rows[up][aside]
    return best


def basins(rows):
    """Return a table of squares to the square in which their water ends; BadSize."""
    goes = flows(rows)
    found = {}
    for square in goes:
        gone = [square]
        while gone[-1] not in found and goes[gone[-1]] is not None:
            gone.append(goes[gone[-1]])
        end = found.get(gone[-1], gone[-1])
        for one in gone:
            found[one] = end
    return found


def filled(rows):
    """Return the least heights, none lower than it was, from which water gets out over the edge; BadSize."""
    old = check_heights(rows)
    levels = levels_in(old)
    return tuple([tuple([levels[(x, y)] for x in range(len(row))]) for y, row in enumerate(old)])


def levels_in(rows):
    """Return a table of squares to the least heights from which water gets out over the outer ones."""
    waiting = []
    for x, y in squares_in(rows):
        if x in (0, len(rows[0]) - 1) or y in (0, len(rows) - 1):
            heappush(waiting, (rows[y][x], x, y))
    found = {(x, y): level for level, x, y in waiting}
    while waiting != []:
        # The lowest one is as low as it can be: all other ways to it go by higher ones.
        level, x, y = heappop(waiting)
        for aside, up in squares_beside(rows, x, y):
            if (aside, up) not in found:
                found[(aside, up)] = max(level, rows[up][aside])
                heappush(waiting, (found[(aside, up)], aside, up))
    return found


def stands(rows):
    """Return how much water stands on squares in all; BadSize."""
    return sum([sum(row) for row in filled(rows)]) - sum([sum(row) for row in check_heights(rows)])


def lakes(rows):
    """Return the lots of squares under water that hang together, in order; BadSize."""
    levels = filled(rows)
    old = check_heights(rows)
    wet = {(x, y): True for x, y in squares_in(old) if levels[y][x] > old[y][x]}
    found = []
    while wet != {}:
        # Squares stand in order, and so do lakes by their first ones.
        first = list(wet)[0]
        lot = [first]
        wet.pop(first)
        place = 0
        while place < len(lot):
            x, y = lot[place]
            for square in squares_beside(old, x, y):
                if square in wet:
                    wet.pop(square)
                    lot.append(square)
            place += 1
        found.append(tuple(sorted(lot)))
    return tuple(found)


def drained(rows):
    """Return a table of squares to how many squares' water comes through them, their own too; BadSize."""
    goes = flows(rows)
    found = {square: 1 for square in goes}
    for _, x, y in sorted([(-rows[y][x], x, y) for x, y in goes]):
        # All that is higher has already sent down what comes through it.
        if goes[(x, y)] is not None:
            found[goes[(x, y)]] += found[(x, y)]
    return found


def moved_earth(rows, level):
    """Return (dug, filled) to make all squares as high as a level; BadSize."""
    more = [height - level for row in check_heights(rows) for height in row]
    return (sum([much for much in more if much > 0]), -sum([much for much in more if much < 0]))


def even_level(rows):
    """Return the height at which as much is dug as filled; BadSize."""
    old = check_heights(rows)
    return part(sum([sum(row) for row in old]), len(old) * len(old[0]))


def crossings(rows, level):
    """Return the points between middles beside each other, right, up and both, at which a level is passed; BadSize.

    Of two such middles one lies below the level, the other not; the points are told row by row.
    """
    old = check_heights(rows)
    wide, high = len(old[0]), len(old)
    found = []
    for y in range(high):
        for x in range(wide):
            for aside, up in ((x + 1, y), (x, y + 1), (x + 1, y + 1)):
                if aside < wide and up < high and (old[y][x] < level) != (old[up][aside] < level):
                    share = over((level - old[y][x], 1), (old[up][aside] - old[y][x], 1))
                    found.append(on_way(point(x, y), point(aside, up), share))
    return tuple(found)


def height_at(rows, x, y, right, up):
    """Return the height in a square of four middles from one, by shares right and up, over its three; BadSize."""
    old = check_heights(rows)
    if not 0 <= x < len(old[0]) - 1 or not 0 <= y < len(old) - 1:
        raise BadSize("no square of four middles")
    low, high = old[y][x], old[y + 1][x + 1]
    # The three on the side of the greater share has the corner in that way.
    if right[0] * up[1] >= up[0] * right[1]:
        corner = old[y][x + 1]
        aside, rise = corner - low, high - corner
    else:
        corner = old[y + 1][x]
        aside, rise = high - corner, corner - low
    return plus(plus((low, 1), (right[0] * aside, right[1])), (up[0] * rise, up[1]))


def highest(rows):
    """Return the squares that no square beside tops or equals, in order; BadSize."""
    old = check_heights(rows)
    return tuple([(x, y) for x, y in squares_in(old)
                  if all([old[up][aside] < old[y][x] for aside, up in squares_beside(old, x, y)])])
