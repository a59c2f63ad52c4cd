"""Labels: boxes put on regions, without touching each other, as many as can be, with papers."""

from borderwright.colours import most_together
from borderwright.errors import BadPaper, BadSize
from borderwright.faces import spots_of
from borderwright.parts import is_less, plus
from borderwright.points import each_once, may_meet, meets, middle
from borderwright.rings import steps_of, where


class Label:
    """A name, a lowest corner, and how wide and high."""

    def __init__(self, name, spot, wide, high):
        if wide[0] <= 0 or high[0] <= 0:
            raise BadSize("a side of nought or below")
        self.name = name
        self.spot = spot
        self.wide = wide
        self.high = high

    def ring(self):
        """Return its corners, to the left, from the lowest on."""
        low_x, low_y = self.spot
        high_x, high_y = plus(low_x, self.wide), plus(low_y, self.high)
        return ((low_x, low_y), (high_x, low_y), (high_x, high_y), (low_x, high_y))

    def meets(self, other):
        """Tell whether two labels have more than edges in common."""
        mine, others = self.ring(), other.ring()
        # They have an inside in common where each one's low edges lie below the other's high ones.
        return all([is_less(mine[0][k], others[2][k]) and is_less(others[0][k], mine[2][k]) for k in range(2)])

    def shown(self):
        """Return (name, spot, wide, high)."""
        return (self.name, self.spot, self.wide, self.high)


def fits(made, label):
    """Tell whether a label lies within its region, edges too; NoSuch."""
    box = label.ring()
    for ring in made.rings(label.name):
        if any([may_meet(step, (box[0], box[2])) and crosses_in(box, step) for step in steps_of(ring)]):
            return False
    # No edge of its region goes through it, so that all its inside is the region's where its middle is.
    return made.covers(label.name, middle_of(box))


def middle_of(ring):
    """Return the middle of a box."""
    return middle(ring[0], ring[2])


def crosses_in(ring, step):
    """Tell whether a step goes through a box's inside."""
    spots = list(step)
    for edge in steps_of(ring):
        spots.extend(spots_of(meets(step, edge)))
    row = each_once(spots)
    return any([where(ring, middle(one, other)) == "in" for one, other in zip(row, row[1:])])


def good_labels(made, labels):
    """Return the labels that fit their regions, as they stand; NoSuch."""
    return tuple([label for label in labels if fits(made, label)])


def most_labels(labels):
    """Return the places of as many labels as can be, a name once each, none meeting, the first in order of such."""
    goes = []
    for place in range(len(labels)):
        goes.append({other: True for other in range(len(labels)) if may_stand(labels, (other,), place)})
    return most_together(goes)


def may_stand(labels, row, place):
    """Tell whether a label may stand beside those at a row's places."""
    label = labels[place]
    return not any([labels[other].name == label.name or labels[other].meets(label) for other in row])


def check_labels(made, labels, row):
    """Return how many labels at a row's places fit, once a name, none meeting; BadPaper, NoSuch."""
    for number, place in enumerate(row):
        if not 0 <= place < len(labels) or not fits(made, labels[place]):
            raise BadPaper("a place that isn't there, or a label that doesn't fit")
        if not may_stand(labels, row[:number], place):
            raise BadPaper("a label meets another, or has its name")
    return len(row)


def bound_of(labels, lots):
    """Return how many labels can stand at most: one of each lot, any two of which can't stand together; BadPaper."""
    if sorted([place for lot in lots for place in lot]) != list(range(len(labels))):
        raise BadPaper("not all labels, each once")
    for lot in lots:
        for number, place in enumerate(lot):
            if any([may_stand(labels, (one,), place) for one in lot[:number]]):
                raise BadPaper("two labels of a lot may stand together")
    return len(lots)


def lots_for(labels):
    """Return lots for bound_of: each label in the first lot with all of which it can't stand."""
    lots = []
    for place in range(len(labels)):
        number = 0
        while number < len(lots) and any([may_stand(labels, (one,), place) for one in lots[number]]):
            number += 1
        if number == len(lots):
            lots.append([])
        lots[number].append(place)
    return tuple([tuple(lot) for lot in lots])
