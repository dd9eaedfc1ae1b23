"""Endless grids of two or three directions, and water on them, told by its tops."""

from pourdrains.points import are_ends, feet_of, is_point_of, lies_under, need_point, need_tops, tops_of
from pourdrains.points import tops_without


def is_point(d, thing):
    """Whether any value is a point."""
    return is_point_of(d, thing)


def is_tops(d, thing):
    """Whether any value is tops."""
    return are_ends(d, thing)


def _need_points(d, points):
    for point in points:
        need_point(d, point)


def highest_points(d, points):
    """The tops under which the same points lie as under any of some points."""
    _need_points(d, points)
    return tops_of(points)


def lowest_points(d, points):
    """The feet over which the same points lie as over any of some points."""
    _need_points(d, points)
    return feet_of(points)


def _need_tops_and_point(d, tops, point):
    need_tops(d, tops)
    need_point(d, point)


def poured(d, tops, point):
    """The tops of the water behind a pour at a point."""
    _need_tops_and_point(d, tops, point)
    return tops_of(tops + (point,))


def opened(d, tops, point):
    """The tops of the water behind an open at a point."""
    _need_tops_and_point(d, tops, point)
    return tops_without(tops, point)


def is_wet(d, tops, point):
    """Whether a point lies under tops."""
    _need_tops_and_point(d, tops, point)
    return any(lies_under(point, top) for top in tops)


def many_wet(d, tops):
    """How many points lie under tops."""
    need_tops(d, tops)
    return _many_under(tops)


def _many_under(points):
    """How many points lie under some points, of any number of directions."""
    if points and len(points[0]) == 1:
        return max(points)[0] + 1
    many = 0
    edges = sorted({point[0] for point in points})
    under = -1
    for edge in edges:
        # From one edge to the next one the same points reach so far in the first direction.
        many += (edge - under) * _many_under([point[1:] for point in points if point[0] >= edge])
        under = edge
    return many
