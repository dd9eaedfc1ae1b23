"""Lots of a hill: lower and upper ones, their closings and ends, and all waters."""

from pourdrains.checks import is_lot_of, is_lower_of, is_terrace_of, is_upper_of, need_lot, need_terrace
from pourdrains.hills import need_hill
from pourdrains.masks import above_masks, below_masks, highest_of, just_above_mask, lot_of, lower_masks
from pourdrains.masks import lowest_of, mask_of, pond_masks, union_of
from pourdrains.things import has_items


def is_lot(hill, thing):
    """Whether any value is a lot."""
    need_hill(hill)
    return is_lot_of(hill[0], thing)


def is_lower(hill, thing):
    """Whether any value is a lower lot."""
    need_hill(hill)
    return is_lower_of(hill, thing)


def is_upper(hill, thing):
    """Whether any value is an upper lot."""
    need_hill(hill)
    return is_upper_of(hill, thing)


def ponds(hill):
    """The ascending tuple of the ponds."""
    need_hill(hill)
    return tuple(sorted({lot_of(mask) for mask in pond_masks(hill)}))


def _read_lot(hill, lot):
    need_hill(hill)
    need_lot(hill[0], lot)
    return mask_of(lot)


def lower_of(hill, lot):
    """The lower closing of a lot."""
    mask = _read_lot(hill, lot)
    return lot_of(union_of(below_masks(hill), mask))


def upper_of(hill, lot):
    """The upper closing of a lot."""
    mask = _read_lot(hill, lot)
    return lot_of(union_of(above_masks(hill), mask))


def highest(hill, lot):
    """The highest terraces of a lot."""
    mask = _read_lot(hill, lot)
    return highest_of(hill, mask)


def lowest(hill, lot):
    """The lowest terraces of a lot."""
    mask = _read_lot(hill, lot)
    return lowest_of(hill, mask)


def judge_lower(hill, lot):
    """A certificate that a lot is a lower one, or of what it misses."""
    mask = _read_lot(hill, lot)
    below = below_masks(hill)
    for b in lot:
        missing = lot_of(below[b] & ~mask)
        if missing:
            return "missing", missing[0], b
    return ("lower",)


def lower_holds(hill, lot, thing):
    """Whether any value is a certificate that a lot is a lower one, or of what it misses."""
    mask = _read_lot(hill, lot)
    if has_items(thing, 1):
        return thing[0] == "lower" and is_lower_of(hill, lot)
    return has_items(thing, 3) and thing[0] == "missing" and _is_missing(hill, mask, thing[1], thing[2])


def _is_missing(hill, mask, a, b):
    if not is_terrace_of(hill[0], a) or not is_terrace_of(hill[0], b):
        return False
    missing = below_masks(hill)[b] & ~mask
    return mask >> b & 1 == 1 and missing >> a & 1 == 1


def just_above(hill, terrace):
    """The ascending tuple of the terraces just above one."""
    need_hill(hill)
    need_terrace(hill[0], terrace)
    return lot_of(just_above_mask(hill, terrace))


def waters(hill):
    """The ascending tuple of all waters."""
    need_hill(hill)
    return tuple(sorted(lot_of(mask) for mask in lower_masks(hill)))


def many_waters(hill):
    """How many waters there are."""
    need_hill(hill)
    return len(lower_masks(hill))
