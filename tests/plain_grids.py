"""The words of part 10, followed as plainly as can be: sets of points in a box, and single points looked at."""

from itertools import product

from tests.plain_books import is_tuple


def is_number(thing):
    return type(thing) is int and thing >= 0


def is_point(d, thing):
    return is_tuple(thing, d) and all(is_number(part) for part in thing)


def leq(one, other):
    return all(a <= b for a, b in zip(one, other))


def is_tops(d, thing):
    """Whether any value is tops, or feet."""
    if type(thing) is not tuple or not all(is_point(d, point) for point in thing):
        return False
    if list(thing) != sorted(set(thing)):
        return False
    return not any(one != other and leq(one, other) for one in thing for other in thing)


def is_script(d, thing):
    if type(thing) is not tuple or len(thing) > 24:
        return False
    return all(is_tuple(row, 2) and type(row[0]) is str and is_deed(d, row) for row in thing)


def is_deed(d, row):
    return row[0] in ("pour", "open") and is_point(d, row[1])


def is_couple(d, thing):
    if not is_tuple(thing, 2) or not is_tops(d, thing[0]) or not is_tops(d, thing[1]):
        return False
    # A point under a top and over a foot is there exactly if the foot lies under the top.
    return not any(leq(foot, top) for top in thing[0] for foot in thing[1])


def box(d, b):
    return list(product(range(b + 1), repeat=d))


def under(tops, points):
    return {point for point in points if any(leq(point, top) for top in tops)}


def over(feet, points):
    return {point for point in points if any(leq(foot, point) for foot in feet)}


def tops_of(points):
    return tuple(sorted(one for one in set(points) if not any(one != other and leq(one, other) for other in points)))


def feet_of(points):
    return tuple(sorted(one for one in set(points) if not any(one != other and leq(other, one) for other in points)))


def run(points, wet, script):
    """The wet ones of some points behind a script."""
    wet = set(wet)
    for sort, at in script:
        if sort == "pour":
            wet |= under([at], points)
        else:
            wet -= over([at], points)
    return wet


def last_sort(script, point):
    """The sort of the last deed that reaches a point; None if there is none."""
    found = None
    for sort, at in script:
        if leq(point, at) if sort == "pour" else leq(at, point):
            found = sort
    return found


def couple(points, script):
    """Of some points those whose last deed is a pour, and those whose last one is an open."""
    last = {point: last_sort(script, point) for point in points}
    return {p for p in points if last[p] == "pour"}, {p for p in points if last[p] == "open"}


def telling_points(d, points):
    """Points enough to tell lots apart whose ends have integers of some points, or of those one more or less."""
    axes = [{0} | {max(0, point[at] + more) for point in points for more in (-1, 0, 1, 2)} for at in range(d)]
    return list(product(*map(sorted, axes)))


def moved(script, shift, times):
    return tuple((sort, tuple(a + times * v for a, v in zip(at, shift))) for sort, at in script)


def rounds(script, shift, n):
    """The script of all rounds, written out one behind the other."""
    return tuple(deed for time in range(n) for deed in moved(script, shift, time))
