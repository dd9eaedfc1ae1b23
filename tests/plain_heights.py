"""The words of part 9, followed as plainly as can be, to hold the package against."""

from itertools import product

from tests import plain, plain_books
from tests.plain_books import is_position, is_tuple


def are_heights(hill, h, thing):
    if not is_tuple(thing, hill[0]) or not all(is_position(height, h + 1) for height in thing):
        return False
    return all(thing[a] >= thing[b] for a in range(hill[0]) for b in range(hill[0]) if plain.leq(hill, a, b))


def all_heights(hill, h):
    return [row for row in product(range(h + 1), repeat=hill[0]) if are_heights(hill, h, row)]


def height_deeds(hill, h):
    pours = [("pour", x, c) for x in range(hill[0]) for c in range(1, h + 1)]
    return pours + [("open", x, c) for x in range(hill[0]) for c in range(h)]


def is_height_deed(many, h, thing):
    if not is_tuple(thing, 3) or type(thing[0]) is not str or not is_position(thing[1], many):
        return False
    bounds = {"pour": (1, h), "open": (0, h - 1)}
    if thing[0] not in bounds or not plain.is_int(thing[2]):
        return False
    low, high = bounds[thing[0]]
    return low <= thing[2] <= high


def is_height_script(many, h, thing):
    return type(thing) is tuple and all(is_height_deed(many, h, deed) for deed in thing)


def run(hill, heights, script):
    for sort, x, c in script:
        if sort == "pour":
            heights = tuple(max(old, c) if plain.leq(hill, at, x) else old for at, old in enumerate(heights))
        else:
            heights = tuple(min(old, c) if plain.leq(hill, x, at) else old for at, old in enumerate(heights))
    return heights


def water_at(heights, level):
    return tuple(at for at, height in enumerate(heights) if height >= level)


def script_at(script, level):
    found = []
    for sort, x, c in script:
        if sort == "pour" and c >= level or sort == "open" and c < level:
            found.append((sort, x))
    return tuple(found)


def tall_hill(hill, h):
    places = [(x, level) for x in range(hill[0]) for level in range(1, h + 1)]
    pairs = []
    for x, low in places:
        for y, high in places:
            if (x, low) != (y, high) and plain.leq(hill, x, y) and low <= high:
                pairs.append((x * h + low - 1, y * h + high - 1))
    return (hill[0] * h, tuple(sorted(pairs)))


def tall_water(h, heights):
    return tuple(sorted(x * h + level - 1 for x, height in enumerate(heights) for level in range(1, height + 1)))


def tall_deed(h, deed):
    sort, x, c = deed
    return (sort, x * h + c - 1) if sort == "pour" else (sort, x * h + c)


def alike(book, h, one, other):
    """Whether height scripts of a book are alike: by the standings at all kinds, at all levels."""
    return all(
        plain_books.standings(book, script_at(one, level)) == plain_books.standings(book, script_at(other, level))
        for level in range(1, h + 1)
    )


def alike_holds(book, h, one, other, thing):
    """Whether any value is a certificate of [9.4]."""
    if is_tuple(thing, 2) and type(thing[0]) is str and thing[0] == "levels":
        if not is_tuple(thing[1], h) or not all(type(steps) is tuple for steps in thing[1]):
            return False
        rows = [(script_at(one, at + 1), script_at(other, at + 1)) for at in range(h)]
        return all(
            plain_books.led_along(book, first, steps) == second for (first, second), steps in zip(rows, thing[1])
        )
    if is_tuple(thing, 4) and type(thing[0]) is str and thing[0] == "parts" and is_position(thing[1], h + 1):
        if thing[1] == 0 or not plain.is_kind(book, thing[2:]):
            return False
        first, second = script_at(one, thing[1]), script_at(other, thing[1])
        return plain_books.standing(first, thing[2:]) != plain_books.standing(second, thing[2:])
    return False
