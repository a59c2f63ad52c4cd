"""Boxes: points and boxes kept in a tree of fours, and what lies in a box found."""

from borderwright.errors import BadSize, NoSuch

MOST_DEPTH = 10


class Fours:
    """A square of one so often doubled whole numbers each way, cut in fours till so many points lie in each at most."""

    def __init__(self, depth, most):
        if not 0 <= depth <= MOST_DEPTH or most < 1:
            raise BadSize("a depth that can't be, or fewer points than one")
        self.depth = depth
        self.most = most
        self.size = doubled(depth)
        self.points = {}
        self.looked = 0

    def put(self, name, x, y):
        """Put a point in by a name, or elsewhere; BadSize outside."""
        if not 0 <= x < self.size or not 0 <= y < self.size:
            raise BadSize("a point outside")
        self.points[name] = (x, y)

    def take(self, name):
        """Take a point out; NoSuch."""
        if name not in self.points:
            raise NoSuch("no point of this name")
        self.points.pop(name)

    def tree(self):
        """Return the tree: names, in order, or four trees: low left, low right, high left, high right."""
        return self.cut(list(self.points), 0, 0, self.size)

    def cut(self, names, x, y, size):
        """Return the tree of names in a square."""
        square = (x, y, x + size, y + size)
        mine = sorted([name for name in names if in_box(self.points[name], square)])
        if len(mine) <= self.most or size <= 1:
            return tuple(mine)
        return tuple([self.cut(mine, low_x, low_y, size // 2) for low_x, low_y in quarters(x, y, size)])

    def within(self, low_x, low_y, high_x, high_y):
        """Return the names of points in a box, lower edges too, in order; how many squares were looked at is kept."""
        self.looked = 0
        return tuple(sorted(self.found(self.tree(), 0, 0, self.size, (low_x, low_y, high_x, high_y))))

    def found(self, tree, x, y, size, box):
        """Return the names of points of a square's tree in a box."""
        low_x, low_y, high_x, high_y = box
        if x >= high_x or y >= high_y or x + size <= low_x or y + size <= low_y:
            return []
        self.looked += 1
        if is_leaf(tree):
            return [name for name in tree if in_box(self.points[name], box)]
        names = []
        for part, (part_x, part_y) in zip(tree, quarters(x, y, size)):
            names.extend(self.found(part, part_x, part_y, size // 2, box))
        return names

    def nearest(self, x, y):
        """Return the names of the points nearest to a spot, in order; NoSuch for none."""
        if self.points == {}:
            raise NoSuch("no points")
        squares = {name: (aside - x) ** 2 + (up - y) ** 2 for name, (aside, up) in self.points.items()}
        least = min(squares.values())
        return tuple(sorted([name for name in squares if squares[name] == least]))


def in_box(spot, box):
    """Tell whether whole numbers (x, y) lie in a box, its lower edges too."""
    return box[0] <= spot[0] < box[2] and box[1] <= spot[1] < box[3]


def quarters(x, y, size):
    """Return the lowest corners of a square's four squares: low left, low right, high left, high right."""
    half = size // 2
    return [(x, y), (x + half, y), (x, y + half), (x + half, y + half)]


def doubled(count):
    """Return one doubled so often."""
    return 1 << max(count, 0)


def is_leaf(tree):
    """Tell whether a tree is names."""
    return len(tree) == 0 or not isinstance(tree[0], tuple)


def code(x, y, depth):
    """Return the number of a square by its way in the tree of fours: its signs in turn, y's ahead of x's; BadSize."""
    if not 0 <= x < doubled(depth) or not 0 <= y < doubled(depth):
        raise BadSize("a square outside")
    found = 0
    for place in range(depth):
        found += sign_at(x, place) << (2 * place)
        found += sign_at(y, place) << (2 * place + 1)
    return found


def uncoded(number, depth):
    """Return the (x, y) of a square's number; BadSize."""
    if not 0 <= number < doubled(2 * depth):
        raise BadSize("no square's number")
    x = 0
    y = 0
    for place in range(depth):
        x += sign_at(number, 2 * place) << place
        y += sign_at(number, 2 * place + 1) << place
    return (x, y)


def sign_at(number, place):
    """Return a number's sign, nought or one, that is worth one doubled so often."""
    return (number >> place) & 1


def depth_of(tree):
    """Return how deep a tree is."""
    if is_leaf(tree):
        return 0
    return 1 + max([depth_of(part) for part in tree])
