"""Points of a grid, and tops and feet: the ends of what lies under points, and of what lies over them."""

from pourdrains.errors import BadPoint, BadWater
from pourdrains.things import has_items, is_ascending, is_integer


def is_point_of(d, thing):
    """Whether any value is a point."""
    return has_items(thing, d) and all(is_integer(number) and number >= 0 for number in thing)


def need_point(d, point):
    """Raise BadPoint for what is no point."""
    if not is_point_of(d, point):
        raise BadPoint(point)


def lies_under(one, other):
    """Whether a point lies at or below another one."""
    return all(a <= b for a, b in zip(one, other))


def are_ends(d, thing):
    """Whether any value is tops; feet are told by the same words."""
    if not isinstance(thing, tuple) or not all(is_point_of(d, point) for point in thing) or not is_ascending(thing):
        return False
    return len(tops_of(thing)) == len(thing)


def need_tops(d, tops):
    """Raise BadWater for what is no tops."""
    if not are_ends(d, tops):
        raise BadWater(tops)


def tops_of(points):
    """The tops under which the same points lie as under any of some points."""
    kept = []
    # What lies below a point comes ahead of it, so going down only what was kept has to be asked.
    for point in sorted(points, reverse=True):
        if not any(lies_under(point, top) for top in kept):
            kept.append(point)
    return tuple(kept[::-1])


def feet_of(points):
    """The feet over which the same points lie as over any of some points."""
    kept = []
    for point in sorted(points):
        if not any(lies_under(foot, point) for foot in kept):
            kept.append(point)
    return tuple(kept)


def _with_number(point, at, number):
    return point[:at] + (number,) + point[at + 1 :]


def tops_without(tops, foot):
    """The tops of what lies under tops, and not over a foot."""
    found = []
    for top in tops:
        if lies_under(foot, top):
            found.extend([_with_number(top, at, number - 1) for at, number in enumerate(foot) if number > 0])
        else:
            found.append(top)
    return tops_of(found)


def feet_without(feet, top):
    """The feet of what lies over feet, and not under a top."""
    found = []
    for foot in feet:
        if lies_under(foot, top):
            found.extend([_with_number(foot, at, number + 1) for at, number in enumerate(top)])
        else:
            found.append(foot)
    return feet_of(found)
