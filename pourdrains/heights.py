"""Heights of water: scripts that pour and open up to a height, the levels, and the tall hill."""

from pourdrains.alike import alike_holds, judge_alike
from pourdrains.checks import is_terrace_of
from pourdrains.deeds import reaches
from pourdrains.errors import BadDeed, BadHeights, BadNumber, BadScript
from pourdrains.hills import need_book, need_hill, product
from pourdrains.masks import closed, lot_of
from pourdrains.things import has_items, is_within

MOST_HEIGHT = 4


def _need_most(h):
    if not is_within(h, 1, MOST_HEIGHT):
        raise BadNumber(h)


def _need_hill_to(hill, h):
    need_hill(hill)
    _need_most(h)


def _are_heights_of(hill, h, thing):
    if not has_items(thing, hill[0]) or not all(is_within(height, 0, h) for height in thing):
        return False
    return all(thing[a] >= thing[b] for a, b in hill[1])


def _is_deed_to(many, h, thing):
    if not has_items(thing, 3) or not is_terrace_of(many, thing[1]):
        return False
    if thing[0] == "pour":
        return is_within(thing[2], 1, h)
    return thing[0] == "open" and is_within(thing[2], 0, h - 1)


def _is_script_to(many, h, thing):
    return isinstance(thing, tuple) and all(_is_deed_to(many, h, deed) for deed in thing)


def _need_heights(hill, h, heights):
    if not _are_heights_of(hill, h, heights):
        raise BadHeights(heights)


def _need_script(many, h, script):
    if not _is_script_to(many, h, script):
        raise BadScript(script)


def _need_level(h, level):
    if not is_within(level, 1, h):
        raise BadNumber(level)


def are_heights(hill, h, thing):
    """Whether any value is heights to h."""
    _need_hill_to(hill, h)
    return _are_heights_of(hill, h, thing)


def is_height_script(hill, h, thing):
    """Whether any value is a height script to h."""
    _need_hill_to(hill, h)
    return _is_script_to(hill[0], h, thing)


def run_heights(hill, h, heights, script):
    """The heights that a height script leaves."""
    _need_hill_to(hill, h)
    _need_heights(hill, h, heights)
    _need_script(hill[0], h, script)
    reached = reaches(hill)
    left = list(heights)
    for sort, x, c in script:
        for at in lot_of(reached[(sort, x)]):
            left[at] = max(left[at], c) if sort == "pour" else min(left[at], c)
    return tuple(left)


def water_at(hill, h, heights, level):
    """The water at a level of heights."""
    _need_hill_to(hill, h)
    _need_heights(hill, h, heights)
    _need_level(h, level)
    return tuple(at for at, height in enumerate(heights) if height >= level)


def script_at(hill, h, script, level):
    """The script at a level of a height script."""
    _need_hill_to(hill, h)
    _need_script(hill[0], h, script)
    _need_level(h, level)
    return _script_told(script, level)


def _script_told(script, level):
    # A pour tells of the levels up to its height, an open of those above it.
    return tuple((sort, x) for sort, x, c in script if (sort == "pour") == (c >= level))


def tall_hill(hill, h):
    """The hill that has a terrace for each terrace and level."""
    _need_hill_to(hill, h)
    levels = closed((h, tuple((at, at + 1) for at in range(h - 1))))
    return product(hill, levels)


def tall_water(hill, h, heights):
    """The water of the tall hill that heights are."""
    _need_hill_to(hill, h)
    _need_heights(hill, h, heights)
    return tuple(at * h + level for at, height in enumerate(heights) for level in range(height))


def tall_deed(hill, h, deed):
    """The deed of the tall hill that a height deed is."""
    _need_hill_to(hill, h)
    if not _is_deed_to(hill[0], h, deed):
        raise BadDeed(deed)
    sort, x, c = deed
    return sort, x * h + (c - 1 if sort == "pour" else c)


def _need_scripts(book, h, one, other):
    need_book(book)
    _need_most(h)
    _need_script(book[0], h, one)
    _need_script(book[0], h, other)


def judge_heights_alike(book, h, one, other):
    """A certificate that two height scripts are alike, or of a level and a kind at which they part."""
    _need_scripts(book, h, one, other)
    told = []
    for level in range(1, h + 1):
        found = judge_alike(book, _script_told(one, level), _script_told(other, level))
        if found[0] == "parts":
            return "parts", level, found[1], found[2]
        told.append(found[1])
    return "levels", tuple(told)


def heights_alike_holds(book, h, one, other, thing):
    """Whether any value is a certificate that two height scripts are alike, or of where they part."""
    _need_scripts(book, h, one, other)
    if has_items(thing, 2):
        return thing[0] == "levels" and _are_levels(book, h, one, other, thing[1])
    if not has_items(thing, 4) or thing[0] != "parts" or not is_within(thing[1], 1, h):
        return False
    return _holds_at(book, one, other, thing[1], ("parts", thing[2], thing[3]))


def _are_levels(book, h, one, other, thing):
    if not has_items(thing, h):
        return False
    return all(_holds_at(book, one, other, at + 1, ("steps", steps)) for at, steps in enumerate(thing))


def _holds_at(book, one, other, level, thing):
    return alike_holds(book, _script_told(one, level), _script_told(other, level), thing)
