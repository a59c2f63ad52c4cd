"""Cells: maps of squares told by letters, drawn round as rings, and maps told by squares again."""

from borderwright.errors import BadText
from borderwright.maps import Map
from borderwright.merges import rings_round
from borderwright.parts import NOUGHT, is_less, part
from borderwright.points import point
from borderwright.rings import box

BARE = "."


def check_rows(rows):
    """Return rows of letters, the lowest first, all alike in length; BadText."""
    found = tuple(rows)
    if found == () or found[0] == "" or any([len(row) != len(found[0]) for row in found]):
        raise BadText("no rows, bare ones, or rows of unlike lengths")
    return found


def square_face(x, y):
    """Return the face of a square by its lowest corner."""
    return ((point(x, y), point(x + 1, y), point(x + 1, y + 1), point(x, y + 1)), ())


def map_of(rows):
    """Return the map of squares: each letter's are a region, dots none; BadText."""
    found = {}
    for y, row in enumerate(check_rows(rows)):
        for x, letter in enumerate(row):
            if letter != BARE:
                found.setdefault(letter, []).append(square_face(x, y))
    return Map({letter: rings_round(faces) for letter, faces in found.items()})


def rows_of(made, wide, high):
    """Return rows of letters: the region strictly within which each square's middle lies, a dot for none."""
    found = []
    for y in range(high):
        row = [made.owner_of((part(2 * x + 1, 2), part(2 * y + 1, 2))) for x in range(wide)]
        found.append("".join([BARE if name is None else name for name in row]))
    return tuple(found)


def grown(rows):
    """Return rows in which dots beside letters, sharing a side, take the first of these; BadText."""
    old = check_rows(rows)
    return tuple(["".join([grown_square(old, x, y) for x in range(len(row))]) for y, row in enumerate(old)])


def grown_square(rows, x, y):
    """Return what stands at a square of rows when they have grown."""
    if rows[y][x] != BARE:
        return rows[y][x]
    about = [rows[up][aside] for aside, up in beside(x, y, len(rows[0]), len(rows))]
    return min([letter for letter in about if letter != BARE], default=BARE)


def beside(x, y, wide, high):
    """Return the squares that share a side with one, in order."""
    found = [(x - 1, y), (x, y - 1), (x, y + 1), (x + 1, y)]
    return [(aside, up) for aside, up in found if 0 <= aside < wide and 0 <= up < high]


def lots_of(rows):
    """Return (letter, squares) of all lots of like letters that hang together by sides, in order; BadText."""
    old = check_rows(rows)
    gone = {}
    found = []
    for y, row in enumerate(old):
        for x, letter in enumerate(row):
            if letter != BARE and (x, y) not in gone:
                lot = lot_at(old, x, y)
                found.append((letter, lot))
                for square in lot:
                    gone[square] = True
    return tuple(found)


def lot_at(rows, x, y):
    """Return the squares, in order, that hang together with one and are like it."""
    lot = {(x, y): True}
    waiting = [(x, y)]
    while waiting != []:
        aside, up = waiting.pop()
        for square in beside(aside, up, len(rows[0]), len(rows)):
            if square not in lot and rows[square[1]][square[0]] == rows[y][x]:
                lot[square] = True
                waiting.append(square)
    return tuple(sorted(lot))


def flipped(rows):
    """Return rows with rows and columns exchanged; BadText."""
    old = check_rows(rows)
    return tuple(["".join([row[x] for row in old]) for x in range(len(old[0]))])


def fits_in(made, wide, high):
    """Tell whether all corners of a map lie within so many squares, edges too; a map of no regions does."""
    spots = [spot for name in made.names() for ring in made.rings(name) for spot in ring]
    if spots == []:
        return True
    low_x, low_y, high_x, high_y = box(spots)
    if is_less(low_x, NOUGHT) or is_less(low_y, NOUGHT):
        return False
    return not is_less(part(wide), high_x) and not is_less(part(high), high_y)
