"""Points: pairs of parts, which side they lie on, and where steps between points meet."""

from borderwright.errors import BadPart, BadPoint
from borderwright.parts import TWO, greater, is_less, lesser, minus, over, part, plus, sign_of, size_of, times


def point(x, y):
    """Return the point of two whole numbers."""
    return (part(x), part(y))


def check_point(one):
    """Return a point with its parts made small."""
    return (part(one[0][0], one[0][1]), part(one[1][0], one[1][1]))


def apart(one, other):
    """Return the parts (x, y) from a point to another."""
    return (minus(other[0], one[0]), minus(other[1], one[1]))


def cross(first, second):
    """Return how much two steps turn: above nought to the left."""
    return minus(times(first[0], second[1]), times(first[1], second[0]))


def side(start, end, spot):
    """Return one where a point lies left of a step, minus one right of it, nought on its line."""
    # This is the sign of cross(apart(start, end), apart(start, spot)), without making parts
    # small on the way: nearly all other work rests on it.
    (x, x_low), (y, y_low) = start
    (end_x, end_x_low), (end_y, end_y_low) = end
    (spot_x, spot_x_low), (spot_y, spot_y_low) = spot
    low = x_low * y_low * end_x_low * end_y_low * spot_x_low * spot_y_low
    if low == 0:
        raise BadPart("a part by nought")
    one = (end_x * x_low - x * end_x_low) * (spot_y * y_low - y * spot_y_low)
    other = (end_y * y_low - y * end_y_low) * (spot_x * x_low - x * spot_x_low)
    turn = (one * end_y_low * spot_x_low - other * end_x_low * spot_y_low) * low
    return sign_of((turn, 1))


def is_ahead(one, other):
    """Tell whether a point comes ahead of another: by x, then by y."""
    if is_less(one[0], other[0]):
        return True
    return not is_less(other[0], one[0]) and is_less(one[1], other[1])


def spans_meet(one, other, first, second):
    """Tell whether the numbers between two parts, and those between two others, have one in common."""
    if is_less(greater(one, other), lesser(first, second)):
        return False
    return not is_less(greater(first, second), lesser(one, other))


def between(start, end, spot):
    """Tell whether a point lies on a step, its ends too."""
    return side(start, end, spot) == 0 and may_meet((start, end), (spot, spot))


def middle(one, other):
    """Return the point halfway between two."""
    return (over(plus(one[0], other[0]), TWO), over(plus(one[1], other[1]), TWO))


def on_way(one, other, share):
    """Return the point a share of the way from one to another."""
    x, y = apart(one, other)
    return (plus(one[0], times(x, share)), plus(one[1], times(y, share)))


def may_meet(one, other):
    """Tell whether the boxes of two steps have a point in common."""
    if not spans_meet(one[0][0], one[1][0], other[0][0], other[1][0]):
        return False
    return spans_meet(one[0][1], one[1][1], other[0][1], other[1][1])


def meets(first, second):
    """Return what two steps both have: None, ("point", point) or ("step", (point, point)) in order; BadPoint."""
    a, b = first
    c, d = second
    if a == b or c == d:
        raise BadPoint("a step goes nowhere")
    to_c, to_d = side(a, b, c), side(a, b, d)
    if to_c == 0 and to_d == 0:
        return meets_in_line(first, second)
    if to_c * to_d > 0 or side(c, d, a) * side(c, d, b) > 0:
        return None
    if to_c == 0:
        return ("point", c)
    if to_d == 0:
        return ("point", d)
    way = apart(c, d)
    share = over(cross(apart(a, c), way), cross(apart(a, b), way))
    return ("point", on_way(a, b, share))


def meets_in_line(first, second):
    """Return what two steps of one line both have, as meets does."""
    start, end = ends_in_order(first)
    other_start, other_end = ends_in_order(second)
    low = other_start if is_ahead(start, other_start) else start
    high = end if is_ahead(end, other_end) else other_end
    if is_ahead(high, low):
        return None
    if low == high:
        return ("point", low)
    return ("step", (low, high))


def ends_in_order(step):
    """Return a step whose start is not behind its end in order."""
    start, end = step
    if is_ahead(end, start):
        return (end, start)
    return (start, end)


def by_halves(rows, ahead):
    """Return rows in order, by halves put together; ahead tells which of two comes first, alike ones stay."""
    if len(rows) < 2:
        return list(rows)
    cut = len(rows) // 2
    left = by_halves(rows[:cut], ahead)
    right = by_halves(rows[cut:], ahead)
    found = []
    place = 0
    for row in left:
        while place < len(right) and ahead(right[place], row):
            found.append(right[place])
            place += 1
        found.append(row)
    return found + right[place:]


def in_order(spots):
    """Return points in order, by x, then by y, alike ones as often as they stand."""
    return by_halves(spots, is_ahead)


def each_once(spots):
    """Return points in order, each once."""
    found = []
    for spot in in_order(spots):
        if found == [] or found[-1] != spot:
            found.append(spot)
    return found


def half(step):
    """Return nought for a step upward, or straight to the right, one for the others; BadPoint for one to nowhere."""
    x, y = sign_of(step[0]), sign_of(step[1])
    if x == 0 and y == 0:
        raise BadPoint("a step goes nowhere")
    if y > 0 or (y == 0 and x > 0):
        return 0
    return 1


def turns_ahead(first, second):
    """Tell whether a step's way comes ahead of another's, going round to the left from straight right; BadPoint."""
    one, other = half(first), half(second)
    if one != other:
        return one < other
    return sign_of(cross(first, second)) > 0


def square(one, other):
    """Return the square of how far points are apart."""
    x, y = apart(one, other)
    return plus(times(x, x), times(y, y))


def shifted(spot, x, y):
    """Return a point moved by parts."""
    return (plus(spot[0], x), plus(spot[1], y))


def stride(one, other):
    """Return how far a point is from another: the step aside and the step up together, without signs."""
    x, y = apart(one, other)
    return plus(size_of(x), size_of(y))


def starts_lower(one, other):
    """Tell whether a row's first part is less than another row's."""
    return is_less(one[0], other[0])


def near_pairs(steps):
    """Return the pairs of places, the lower one first, of steps whose boxes have a point in common."""
    rows = [(lesser(start[0], end[0]), greater(start[0], end[0]), place) for place, (start, end) in enumerate(steps)]
    # By their least x, so that behind each step only those that may still meet it are looked at.
    rows = by_halves(rows, starts_lower)
    found = []
    for number, (_, high, one) in enumerate(rows):
        for behind in range(number + 1, len(rows)):
            low, _, other = rows[behind]
            if is_less(high, low):
                break
            if may_meet(steps[one], steps[other]):
                found.append((min(one, other), max(one, other)))
    return found
