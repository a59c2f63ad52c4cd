"""Maps: regions of rings that share borders, leave no gap between them and don't overlap."""

from borderwright.errors import BadMap, NoSuch
from borderwright.faces import edges_of, face_area, faces_of, in_face, inner_point
from borderwright.parts import total
from borderwright.points import check_point, is_ahead, stride
from borderwright.rings import check_ring, steps_of, to_left, where


class Map:
    """Names with rings: a point is a region's where it lies within an odd count of them."""

    def __init__(self, regions):
        self.regions = {}
        for name, rings in regions.items():
            self.regions[name] = tuple([check_ring(ring) for ring in rings])
        self.faces = faces_of(all_steps(self))
        self.owners = [sole_owner(self, inner_point(face)) for face in self.faces]
        self.sides = sides_of(self.faces, self.owners)

    def covers(self, name, spot):
        """Tell whether a point that is on no edge lies in a region; NoSuch."""
        return len([ring for ring in self.rings(name) if where(ring, spot) == "in"]) % 2 == 1

    def rings(self, name):
        """Return a region's rings; NoSuch."""
        if name not in self.regions:
            raise NoSuch("no region of this name")
        return self.regions[name]

    def names(self):
        """Return the names, in order."""
        return tuple(sorted(self.regions))

    def at(self, spot):
        """Return the names of the regions that a point lies in, or on an edge of, in order."""
        here = check_point(spot)
        found = []
        for name in self.names():
            places = [where(ring, here) for ring in self.regions[name]]
            if "on" in places or places.count("in") % 2 == 1:
                found.append(name)
        return tuple(found)

    def area(self, name):
        """Return how great a region is; NoSuch."""
        return total([face_area(face) for face in self.parts(name)])

    def whole(self):
        """Return how great all regions are."""
        return total([face_area(face) for face, owner in zip(self.faces, self.owners) if owner is not None])

    def gaps(self):
        """Return the outer rounds, from their first points on, of the faces that no region has, as these stand."""
        return tuple([to_left(face[0]) for face, owner in zip(self.faces, self.owners) if owner is None])

    def borders(self):
        """Return a table of each edge piece, ends in order, to (name left of it, name right of it), None for none."""
        return {piece: self.sides[piece] for piece in self.sides}

    def neighbours(self):
        """Return the (name, name), in order, of regions that share a piece of border."""
        pairs = [pair for pair in self.sides.values() if None not in pair and pair[0] != pair[1]]
        return tuple(sorted({(min(one, other), max(one, other)) for one, other in pairs}))

    def coast(self, name):
        """Return how long the border of a region is that no other shares, aside and up together; NoSuch."""
        self.rings(name)
        alone = ((name, None), (None, name))
        return total([stride(start, end) for (start, end), pair in self.sides.items() if pair in alone])

    def parts(self, name):
        """Return the faces of a region, as they stand; NoSuch."""
        self.rings(name)
        return tuple([face for face, owner in zip(self.faces, self.owners) if owner == name])

    def owner_of(self, spot):
        """Return the region strictly within which a point lies, None for none, or on an edge."""
        here = check_point(spot)
        for face, owner in zip(self.faces, self.owners):
            if in_face(face, here):
                return owner
        return None

    def shown(self):
        """Return (name, rings) of all regions, names in order."""
        return tuple([(name, self.regions[name]) for name in self.names()])


def all_steps(made):
    """Return the steps of all rings of a map's regions."""
    return [step for name in made.names() for ring in made.rings(name) for step in steps_of(ring)]


def sole_owner(made, spot):
    """Return the only region of a map that covers a point on no edge, None for none; BadMap for two."""
    mine = [name for name in made.names() if made.covers(name, spot)]
    if len(mine) > 1:
        raise BadMap("regions overlap")
    if mine == []:
        return None
    return mine[0]


def sides_of(faces, owners):
    """Return a table of each edge piece of faces, ends in order, to (owner left of it, owner right of it)."""
    found = {}
    for face, owner in zip(faces, owners):
        for start, end in edges_of(face):
            # A face lies left of its steps as they go round it.
            if is_ahead(start, end):
                _, right = found.get((start, end), (None, None))
                found[(start, end)] = (owner, right)
            else:
                left, _ = found.get((end, start), (None, None))
                found[(end, start)] = (left, owner)
    return found


def check_whole(made, outline):
    """Return True where a map's regions fill a ring wholly: no gap, nothing outside; BadMap, BadRing."""
    ring = check_ring(outline)
    for face in faces_of(list(steps_of(ring)) + all_steps(made)):
        spot = inner_point(face)
        if (where(ring, spot) == "in") != (made.owner_of(spot) is not None):
            raise BadMap("the regions don't fill the ring, or go out of it")
    return True


def all_sizes(made):
    """Return (name, size) of all regions, names in order."""
    return tuple([(name, made.area(name)) for name in made.names()])
