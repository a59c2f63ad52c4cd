"""Shapes: exact changes of points by sums, and which shape one has become."""

from borderwright.errors import BadPart, BadRing
from borderwright.maps import Map
from borderwright.parts import NOUGHT, ONE, minus, over, part, plus, times
from borderwright.points import apart
from borderwright.rings import area, to_left

QUARTERS = 4
ASIDE = (1, 0, -1, 0)
UP = (0, 1, 0, -1)


class Change:
    """Parts a, b, c, d, e, f: x goes to a x + b y + c, y to d x + e y + f."""

    def __init__(self, parts):
        self.six = tuple([part(one[0], one[1]) for one in parts])
        if len(self.six) != 6:
            raise BadPart("not six parts")

    def of(self, spot):
        """Return where a point goes."""
        a, b, c, d, e, f = self.six
        return (plus(both(a, b, spot), c), plus(both(d, e, spot), f))

    def by(self):
        """Return by how much sizes are multiplied, below nought where left and right are exchanged."""
        a, b, _, d, e, _ = self.six
        return minus(times(a, e), times(b, d))

    def behind(self, first):
        """Return the change that does another first, then this one."""
        a, b, _, d, e, _ = self.six
        one, two, three, four, five, six = first.six
        x, y = self.of((three, six))
        return Change([both(a, b, (one, four)), both(a, b, (two, five)), x,
                       both(d, e, (one, four)), both(d, e, (two, five)), y])

    def back(self):
        """Return the change that undoes this one; BadPart where it makes all flat."""
        much = self.by()
        if much[0] == 0:
            raise BadPart("all goes flat")
        a, b, c, d, e, f = self.six
        x = minus(times(b, f), times(e, c))
        y = minus(times(d, c), times(a, f))
        return Change([over(one, much) for one in (e, minus(NOUGHT, b), x, minus(NOUGHT, d), a, y)])

    def of_ring(self, ring):
        """Return where a ring goes, as it stands."""
        return tuple([self.of(spot) for spot in ring])

    def of_map(self, made):
        """Return the map whose regions go so; BadPart where all goes flat."""
        if self.by()[0] == 0:
            raise BadPart("all goes flat")
        return Map({name: [self.of_ring(ring) for ring in rings] for name, rings in made.regions.items()})

    def shown(self):
        """Return the six parts."""
        return self.six


def both(one, other, spot):
    """Return a point's x by a part and its y by another, put together."""
    return plus(times(one, spot[0]), times(other, spot[1]))


def moved_by(x, y):
    """Return the change that moves by parts."""
    return Change([ONE, NOUGHT, x, NOUGHT, ONE, y])


def stretched(by_x, by_y):
    """Return the change that stretches by parts."""
    return Change([by_x, NOUGHT, NOUGHT, NOUGHT, by_y, NOUGHT])


def quarter_turned(many):
    """Return the change that turns so many quarters to the left about nought."""
    aside, up = ASIDE[many % QUARTERS], UP[many % QUARTERS]
    return Change([(aside, 1), (-up, 1), NOUGHT, (up, 1), (aside, 1), NOUGHT])


def three_to_three(one, other):
    """Return the only change by which three points go to three; BadPart for points in one line."""
    return flat_change(other).behind(flat_change(one).back())


def flat_change(three):
    """Return the change that takes nought, one to the right and one up to three points."""
    start, right, up = three
    a, d = apart(start, right)
    b, e = apart(start, up)
    return Change([a, b, start[0], d, e, start[1]])


def turned_alike(one, other):
    """Return the first count of quarters by which one ring, moved, is another, None for none; BadRing for flat ones."""
    if area(one)[0] == 0 or area(other)[0] == 0:
        raise BadRing("a flat ring")
    wanted = to_left(other)
    for many in range(QUARTERS):
        turned = to_left(quarter_turned(many).of_ring(one))
        x, y = apart(turned[0], wanted[0])
        if moved_by(x, y).of_ring(turned) == wanted:
            return many
    return None
