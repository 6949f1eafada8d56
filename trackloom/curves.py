"""Curves: values that go from point to point in straight lines."""

from trackloom.checking import check_number, is_ascending, is_integer, is_row
from trackloom.errors import InvalidCurve, Undefined

MANY = 40


def is_curve(value):
    """Whether any value is a curve."""
    return (
        is_row(value, 1, MANY)
        and all([is_point(point) for point in value])
        and is_ascending([point[0] for point in value])
    )


def is_point(value):
    """Whether any value is a point (tick, value) of a curve."""
    return is_row(value, 2, 2) and is_integer(value[0], 0, 2000) and is_integer(value[1], -1024, 1024)


def check_curve(curve):
    """Raises InvalidCurve unless it is a curve."""
    if not is_curve(curve):
        raise InvalidCurve(curve)


def value_at(curve, tick):
    """The value of the curve at the tick."""
    check_curve(curve)
    check_number(tick, 0, 10000)
    return values_along(curve, tick, tick + 1)[0]


def values_along(points, first, last):
    """The values at the ticks from first up to, and without, last of a curve, or of some points of one."""
    ahead = len([1 for point in points if point[0] <= first])
    within = len([1 for point in points if point[0] < last])
    near = points[max(ahead - 1, 0):within + 1]
    values = [near[0][1]] * (min(last, near[0][0]) - first)
    for (start, one), (end, other) in zip(near, near[1:]):
        values.extend([
            one + (other - one) * (tick - start) // (end - start)
            for tick in range(max(first, start), min(last, end))
        ])
    return values + [near[-1][1]] * (last - first - len(values))


def bent(curve, tick, value):
    """The curve with this point, in place of one at this tick."""
    check_curve(curve)
    check_number(tick, 0, 2000)
    check_number(value, -1024, 1024)
    points = [point for point in curve if point[0] != tick] + [(tick, value)]
    if len(points) > MANY:
        raise Undefined("many")
    return tuple(sorted(points))


def straight(curve):
    """The curve without the points that change its value at no tick."""
    check_curve(curve)
    points = list(curve)
    at = 0
    while at < len(points):
        if is_spare(points[max(at - 1, 0):at + 2], points[at]):
            del points[at]
        else:
            at = at + 1
    return tuple(points)


def is_spare(near, point):
    """Whether a curve can do without the point, near being the point and its neighbours.

    Beyond its neighbours a point changes nothing; ahead of a first and
    behind a last point the value is that at this point's own tick.
    """
    others = [other for other in near if other != point]
    if not others:
        return False
    first = near[0][0]
    last = near[-1][0] + 1
    return values_along(near, first, last) == values_along(others, first, last)
