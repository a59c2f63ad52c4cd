"""The errors of borderwright: all stand under MapFault, a ValueError."""


class MapFault(ValueError):
    """What borderwright refuses."""


class BadPart(MapFault):
    """A part that can't be."""


class BadPoint(MapFault):
    """A point, or a step between points, that can't be."""


class BadRing(MapFault):
    """A ring that has too few corners, or touches or crosses itself."""


class BadMap(MapFault):
    """Regions that leave a gap, overlap, or don't fit."""


class BadPaper(MapFault):
    """A paper that doesn't show what it is to show."""


class BadSize(MapFault):
    """A count or number that is out of bounds."""


class BadText(MapFault):
    """A text that isn't one of the language."""


class BadStore(MapFault):
    """Kept words that aren't whole."""


class NoSuch(MapFault):
    """What isn't there."""
