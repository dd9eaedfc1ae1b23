"""Maps of one hill into another one: what they carry back, what they push on, and single maps."""

from pourdrains.checks import is_deed_of, is_terrace_of, need_deed, need_script, need_water
from pourdrains.deeds import reaches
from pourdrains.errors import BadMap
from pourdrains.hills import need_hill
from pourdrains.masks import above_masks, below_masks, highest_of, lot_of, lowest_of, mask_of, union_of
from pourdrains.things import has_items, is_just


def _need_hills(one, other):
    need_hill(one)
    need_hill(other)


def _need_map(one, other, places):
    _need_hills(one, other)
    if not _is_map_of(one, other, places):
        raise BadMap(places)


def _is_map_of(one, other, thing):
    if not has_items(thing, one[0]) or not all(is_terrace_of(other[0], place) for place in thing):
        return False
    above = above_masks(other)
    return all(above[thing[a]] >> thing[b] & 1 == 1 for a, b in one[1])


def is_map(one, other, thing):
    """Whether any value is a map of the first hill into the second one."""
    _need_hills(one, other)
    return _is_map_of(one, other, thing)


def many_maps(one, other):
    """How many maps of the first hill into the second one there are."""
    _need_hills(one, other)
    # For each tuple of the masks of the places left for the terraces to come: in how many ways it comes about.
    ways = {((1 << other[0]) - 1,) * one[0]: 1}
    for at in range(one[0]):
        longer = {}
        for free, number in ways.items():
            for place in lot_of(free[0]):
                left = _left_for_others(one, other, at, place, free)
                longer[left] = longer.get(left, 0) + number
        ways = longer
    return sum(ways.values())


def _left_for_others(one, other, at, place, free):
    """The masks of the places left for the terraces behind one, when this one has a place."""
    below, above = below_masks(one)[at], above_masks(one)[at]
    low, high = below_masks(other)[place], above_masks(other)[place]
    left = []
    for further, mask in enumerate(free[1:], at + 1):
        if below >> further & 1:
            mask &= low
        if above >> further & 1:
            mask &= high
        left.append(mask)
    return tuple(left)


def _carried_mask(places, mask):
    """The mask of the terraces whose places are in a mask."""
    return mask_of([at for at, place in enumerate(places) if mask >> place & 1])


def carried_water(one, other, places, water):
    """Water of the second hill, carried back to the first one."""
    _need_map(one, other, places)
    need_water(other, water)
    return lot_of(_carried_mask(places, mask_of(water)))


def pushed_water(one, other, places, water):
    """Water of the first hill, pushed on to the second one."""
    _need_map(one, other, places)
    need_water(one, water)
    return lot_of(union_of(below_masks(other), mask_of([places[at] for at in water])))


def _carried_back(one, places, deed, reach):
    """The lot of the terraces at which a deed with a reach is done when it is carried back."""
    carried = _carried_mask(places, reach)
    if deed[0] == "pour":
        return highest_of(one, carried)
    return lowest_of(one, carried)


def carried_deed(one, other, places, deed):
    """A deed of the second hill, carried back to the first one as a script."""
    _need_map(one, other, places)
    need_deed(other[0], deed)
    return _carried_along(one, other, places, (deed,))


def carried_script(one, other, places, script):
    """A script of the second hill, carried back to the first one."""
    _need_map(one, other, places)
    need_script(other[0], script)
    return _carried_along(one, other, places, script)


def _carried_along(one, other, places, script):
    reached = reaches(other)
    carried = []
    for deed in script:
        carried.extend([(deed[0], at) for at in _carried_back(one, places, deed, reached[deed])])
    return tuple(carried)


def judge_single(one, other, places):
    """A certificate that a map carries each deed back to one or none, or of a deed that it does not."""
    _need_map(one, other, places)
    done = {"pour": [], "open": []}
    for deed, reach in reaches(other).items():
        ends = _carried_back(one, places, deed, reach)
        if len(ends) > 1:
            return "wide", deed, ends[0], ends[1]
        done[deed[0]].append(ends[0] if ends else -1)
    return "single", tuple(done["pour"]), tuple(done["open"])


def single_holds(one, other, places, thing):
    """Whether any value is a certificate that a map is single, or of a deed that shows that it is not."""
    _need_map(one, other, places)
    if has_items(thing, 3):
        return is_just(thing, judge_single(one, other, places))
    if not has_items(thing, 4) or thing[0] != "wide" or not is_deed_of(other[0], thing[1]):
        return False
    _, deed, a, b = thing
    if not is_terrace_of(one[0], a) or not is_terrace_of(one[0], b) or a >= b:
        return False
    ends = _carried_back(one, places, deed, reaches(other)[deed])
    return a in ends and b in ends
