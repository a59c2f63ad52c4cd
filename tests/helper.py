"""What the tests share: points, rings and steps written shortly, and copies by which changes are seen."""

import copy
from fractions import Fraction


def part_of(number):
    """Return the part of a whole number or a Fraction."""
    number = Fraction(number)
    return (number.numerator, number.denominator)


def spot(x, y):
    """Return the point of two numbers."""
    return (part_of(x), part_of(y))


def ring(*pairs):
    """Return the ring of pairs of numbers."""
    return tuple(spot(x, y) for x, y in pairs)


def box_ring(x, y, wide, high):
    """Return the ring of a box by its lowest corner, to the left."""
    return ring((x, y), (x + wide, y), (x + wide, y + high), (x, y + high))


def step(one, other):
    """Return the step between two pairs of numbers."""
    return (spot(*one), spot(*other))


def steps(*rows):
    """Return the steps of (x, y, x, y) rows."""
    return [step(row[:2], row[2:]) for row in rows]


def ring_steps(*rings):
    """Return the steps of rings."""
    return [(one, other) for row in rings for one, other in zip(row, row[1:] + row[:1])]


def number(one):
    """Return the Fraction of a part."""
    return Fraction(one[0], one[1])


def pair(one):
    """Return the two Fractions of a point."""
    return (number(one[0]), number(one[1]))


def turned(row):
    """Return a round from its least corner on, so that two rounds can be compared."""
    row = list(row)
    places = [row[k:] + row[:k] for k in range(len(row))]
    return tuple(min(places, key=lambda found: [pair(one) for one in found]))


def plain_face(face):
    """Return a face with its rounds turned and its holes in order, so that two faces can be compared."""
    outer, holes = face
    return (turned(outer), sorted(turned(hole) for hole in holes))


def plain_faces(faces):
    """Return faces so that two lots of them can be compared, whatever order they stand in."""
    return sorted(plain_face(face) for face in faces)


def unchanged(case, work, *handed):
    """Do some work with what is handed in, see that this is as it was, and return what the work gave."""
    before = copy.deepcopy(handed)
    found = work(*handed)
    case.assertEqual(handed, before)
    return found


def refused_unchanged(case, error, work, *handed):
    """See that some work is refused, and that what was handed in is as it was."""
    before = copy.deepcopy(handed)
    with case.assertRaises(error) as caught:
        work(*handed)
    case.assertIs(caught.exception.__class__, error)
    case.assertEqual(handed, before)


def map_state(made):
    """Return all that a map keeps, so that two states of it can be compared."""
    return (list(made.regions.items()), made.faces, list(made.owners), list(made.sides.items()))


def keeps_map(case, made, work, *handed):
    """Do some work with a map and what else is handed in, see that all is as it was, and return what the work gave."""
    before = map_state(made)
    found = unchanged(case, lambda *rest: work(made, *rest), *handed)
    case.assertEqual(map_state(made), before)
    return found


def refused_keeps_map(case, error, made, work, *handed):
    """See that some work with a map is refused, and that the map and what else was handed in are as they were."""
    before = map_state(made)
    refused_unchanged(case, error, lambda *rest: work(made, *rest), *handed)
    case.assertEqual(map_state(made), before)


def tuples_all_through(case, found):
    """See that something is a tuple, and that no list stands anywhere in it."""
    case.assertIs(found.__class__, tuple)
    waiting = [found]
    while waiting:
        for one in waiting.pop():
            case.assertNotIsInstance(one, (list, dict))
            if isinstance(one, tuple):
                waiting.append(one)
