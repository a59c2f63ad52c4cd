"""Overlays: two maps laid on each other, what both have, and what goes from one to the other."""

from borderwright.errors import BadSize
from borderwright.faces import face_area, faces_of, inner_point
from borderwright.maps import Map, all_steps
from borderwright.parts import NOUGHT, is_less, over, plus, times, total


class Overlay:
    """The faces of two maps' borders together, each with (region of the one, region of the other), None for none."""

    def __init__(self, one, other):
        self.one = one
        self.other = other
        self.faces = faces_of(all_steps(one) + all_steps(other))
        spots = [inner_point(face) for face in self.faces]
        self.owners = [(one.owner_of(spot), other.owner_of(spot)) for spot in spots]

    def areas(self):
        """Return a table of (region, region) to how great what both have is, where one is a region."""
        found = {}
        for face, pair in zip(self.faces, self.owners):
            if pair != (None, None):
                found[pair] = plus(found.get(pair, NOUGHT), face_area(face))
        return found

    def both(self, name, other):
        """Return how great what a region of the one and one of the other both have is."""
        return self.areas().get((name, other), NOUGHT)

    def shares(self, name):
        """Return ((region of the other, share of a region of the one), ..), None first, then in order; NoSuch."""
        whole = self.one.area(name)
        sizes = {other: size for (mine, other), size in self.areas().items() if mine == name}
        found = sorted([other for other in sizes if other is not None])
        if None in sizes:
            found.insert(0, None)
        return tuple([(other, over(sizes[other], whole)) for other in found])

    def carried(self, amounts):
        """Return a table of those of the other's regions, None too, that have a share, to amounts by shares; NoSuch."""
        found = {}
        for name, amount in amounts.items():
            for other, share in self.shares(name):
                found[other] = plus(found.get(other, NOUGHT), times(amount, share))
        return found

    def unlike(self):
        """Return how great all is where the two maps tell unlike names, or one tells none."""
        return total([size for (one, other), size in self.areas().items() if one != other])


def greatest_share(overlay, name):
    """Return the other map's region that has most of a region, the first of as great ones, None for none; NoSuch."""
    best = None
    most = NOUGHT
    for other, share in overlay.shares(name):
        if other is not None and is_less(most, share):
            best = other
            most = share
    return best


def alike(overlay):
    """Return how great all is that one map or the other has, and how great what both have, by any regions."""
    sizes = overlay.areas()
    return (total(list(sizes.values())), total([sizes[pair] for pair in sizes if None not in pair]))


def same_map(one, other):
    """Tell whether two maps have the same regions at all points but edges."""
    return Overlay(one, other).unlike() == NOUGHT


def check_names(made, names):
    """Return names of a map's regions, each once, in order; BadSize for one that isn't there."""
    found = tuple(sorted(set(names)))
    if any([name not in made.names() for name in found]):
        raise BadSize("no region of this name")
    return found


def only(made, names):
    """Return the map of some regions alone; BadSize."""
    return Map({name: made.rings(name) for name in check_names(made, names)})
