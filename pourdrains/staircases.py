"""Scripts on endless grids: what they leave, their couples, rounds with a shift, and boxes."""

from pourdrains.errors import BadCouple, BadNumber, BadPoint, BadScript
from pourdrains.hills import MOST_TERRACES
from pourdrains.points import are_ends, feet_of, feet_without, is_point_of, lies_under, need_tops, tops_of
from pourdrains.points import tops_without
from pourdrains.shares import power_of
from pourdrains.things import has_items, is_integer, is_within

MOST_DEEDS = 24


def is_grid_script(d, thing):
    """Whether any value is a script of the grid."""
    if not isinstance(thing, tuple) or len(thing) > MOST_DEEDS:
        return False
    return all(_is_grid_deed(d, deed) for deed in thing)


def _is_grid_deed(d, thing):
    return has_items(thing, 2) and thing[0] in ("pour", "open") and is_point_of(d, thing[1])


def _need_script(d, script):
    if not is_grid_script(d, script):
        raise BadScript(script)


def run_grid(d, tops, script):
    """The tops of the water that a script leaves."""
    need_tops(d, tops)
    _need_script(d, script)
    for sort, point in script:
        tops = tops_of(tops + (point,)) if sort == "pour" else tops_without(tops, point)
    return tops


def grid_couple(d, script):
    """The couple of a script."""
    _need_script(d, script)
    couple = (), ()
    for sort, point in script:
        couple = _then(couple, ((point,), ()) if sort == "pour" else ((), (point,)))
    return couple


def _then(one, other):
    """The couple of one couple and then another one."""
    tops, feet = one
    for foot in other[1]:
        tops = tops_without(tops, foot)
    for top in other[0]:
        feet = feet_without(feet, top)
    return tops_of(tops + other[0]), feet_of(feet + other[1])


def behind_grid(d, first, second):
    """The couple of a script with the first couple and one with the second couple behind it."""
    for couple in (first, second):
        if not _is_grid_couple(d, couple):
            raise BadCouple(couple)
    return _then(first, second)


def _is_grid_couple(d, thing):
    if not has_items(thing, 2) or not are_ends(d, thing[0]) or not are_ends(d, thing[1]):
        return False
    return not any(lies_under(foot, top) for top in thing[0] for foot in thing[1])


def rounds_couple(d, script, shift, n):
    """The couple of a script that is done n times, moved on by the shift from each time to the next one."""
    _need_script(d, script)
    if not is_point_of(d, shift):
        raise BadPoint(shift)
    if not is_within(n, 1, 10 ** 30):
        raise BadNumber(n)
    last = tuple((sort, _moved(point, shift, n - 1)) for sort, point in script)
    tops, feet = grid_couple(d, last)
    # What no pour of the last round reaches is reached by none of the others: the first opens keep it dry.
    dry = feet_of([point for sort, point in script if sort == "open"])
    for sort, point in last:
        if sort == "pour":
            dry = feet_without(dry, point)
    return tops, feet_of(feet + dry)


def _moved(point, shift, times):
    return tuple(number + times * more for number, more in zip(point, shift))


def box_of(d, b):
    """The box of b as a hill, and its points in ascending order."""
    if not is_integer(b) or b < 0 or power_of(b + 1, d) > MOST_TERRACES:
        raise BadNumber(b)
    points = [()]
    for _ in range(d):
        points = [point + (number,) for point in points for number in range(b + 1)]
    rows = list(enumerate(points))
    pairs = tuple((i, j) for i, one in rows for j, other in rows if i != j and lies_under(one, other))
    return (len(points), pairs), tuple(points)
