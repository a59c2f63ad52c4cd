"""Parts: exact numbers, (top, low) made small, the low above nought."""

from math import gcd

from borderwright.errors import BadPart

NOUGHT = (0, 1)
ONE = (1, 1)
TWO = (2, 1)
FIGURES_AT_ONCE = 64
BY_FIGURES = 10 ** 64


def shared(one, other):
    """Return the greatest number that goes into both."""
    return gcd(one, other)


def part(top, low=1):
    """Return a part made small; BadPart by nought."""
    if low == 1:
        return (top, 1)
    if low == 0:
        raise BadPart("a part by nought")
    many = shared(top, low)
    if low < 0:
        many = -many
    return (top // many, low // many)


def plus(one, other):
    """Return the sum of two parts."""
    return part(one[0] * other[1] + other[0] * one[1], one[1] * other[1])


def minus(one, other):
    """Return the difference of two parts."""
    return part(one[0] * other[1] - other[0] * one[1], one[1] * other[1])


def times(one, other):
    """Return the product of two parts."""
    return part(one[0] * other[0], one[1] * other[1])


def over(one, other):
    """Return a part by another; BadPart by nought."""
    return part(one[0] * other[1], one[1] * other[0])


def is_less(one, other):
    """Tell whether a part is less than another."""
    return one[0] * other[1] < other[0] * one[1]


def sign_of(one):
    """Return one, nought or minus one for a part above, at or below nought."""
    if one[0] > 0:
        return 1
    if one[0] < 0:
        return -1
    return 0


def size_of(one):
    """Return a part without its sign."""
    return (abs(one[0]), one[1])


def total(parts):
    """Return the sum of parts."""
    found = NOUGHT
    for one in parts:
        found = plus(found, one)
    return found


def lesser(one, other):
    """Return the lesser of two parts."""
    if is_less(other, one):
        return other
    return one


def greater(one, other):
    """Return the greater of two parts."""
    if is_less(one, other):
        return other
    return one


def told(one):
    """Return a part as it is written: the top, and a stroke and the low where it isn't one."""
    top, low = one
    sign = "-" if top < 0 else ""
    if low == 1:
        return sign + figures_of(abs(top))
    return f"{sign}{figures_of(abs(top))}/{figures_of(low)}"


def figures_of(number):
    """Return the figures of a whole number from nought on, however many they are."""
    # Python refuses to write more than some thousand figures at once.
    rows = []
    while number >= BY_FIGURES:
        number, rest = divmod(number, BY_FIGURES)
        rows.append(str(rest).zfill(FIGURES_AT_ONCE))
    rows.append(str(number))
    return "".join(reversed(rows))
