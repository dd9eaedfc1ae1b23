"""Speeds of drawn deeds: the values and numbers that tell how the powers of the walk's table go."""

from pourdrains.checks import need_count
from pourdrains.drawing import read_weights, sum_of_weights, weight_within
from pourdrains.hills import need_hill
from pourdrains.masks import above_masks, below_masks, lot_of, lower_masks, union_of
from pourdrains.shares import power_of, reduced


def convex_lots(hill):
    """The ascending tuple of all convex lots."""
    need_hill(hill)
    return tuple(sorted(lot_of(mask) for mask in _convex_masks(hill)))


def _convex_masks(hill):
    below, above = below_masks(hill), above_masks(hill)
    return [mask for mask in range(1 << hill[0]) if union_of(below, mask) & union_of(above, mask) == mask]


def _numbers_of_rests(hill):
    """The integer of the rest of each convex lot, by the mask of the convex lot itself."""
    wets = lower_masks(hill)
    numbers = {}
    for lot in _convex_masks(hill):
        # A rest with all terraces of this one is that of a convex lot within this one, which has a lesser mask.
        further = sum(number for part, number in numbers.items() if part & ~lot == 0)
        numbers[lot] = len({wet & lot for wet in wets}) - further
    return numbers


def _numbers_by_weight(hill, drawn):
    """For each weight within a rest: the sum of the integers of the rests with just this weight."""
    full = (1 << hill[0]) - 1
    found = {}
    for lot, number in _numbers_of_rests(hill).items():
        within = weight_within(drawn, full & ~lot)
        found[within] = found.get(within, 0) + number
    return found


def speeds(hill, weights):
    """The tuple of the speeds, the least one first, each with its integer."""
    drawn = read_weights(hill, weights)
    bottom = sum_of_weights(drawn)
    found = _numbers_by_weight(hill, drawn)
    return tuple((reduced(within, bottom), found[within]) for within in sorted(found) if found[within] != 0)


def trace_of(hill, weights, t):
    """The sum of the entries on the diagonal of a power of the walk's table."""
    drawn = read_weights(hill, weights)
    need_count(t)
    top = sum(number * power_of(within, t) for within, number in _numbers_by_weight(hill, drawn).items())
    return reduced(top, power_of(sum_of_weights(drawn), t))
