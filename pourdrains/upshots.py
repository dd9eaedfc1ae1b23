"""What runs of programs do to the narrow kinds of a ground, for values that have been checked."""

from pourdrains.deeds import reaches
from pourdrains.masks import below_masks, lot_of, lower_masks, mask_of, upper_masks
from pourdrains.runs import script_done, walk
from pourdrains.standings import standing_of


def narrow_kinds(ground):
    """The ascending list of the narrow kinds."""
    below = below_masks(ground)
    found = []
    for upper in upper_masks(ground):
        shared = (1 << ground[0]) - 1
        for name in lot_of(upper):
            shared &= below[name]
        found.extend([(lot_of(lower), lot_of(upper)) for lower in lower_masks(ground) if lower & ~shared == 0])
    return sorted(found)


def upshots_of(program, ground, kinds, water):
    """The tuple of the upshots of a run at all of some narrow kinds; None if it never ends."""
    wet = mask_of(water)
    standings, again = walk(program, reaches(ground), wet)
    if again is not None:
        return None
    script = script_done(program, standings)
    return tuple(_upshot(script, kind, wet) for kind in kinds)


def _upshot(script, kind, wet):
    left = standing_of(script, kind)
    if left != "kept":
        return left
    below, above = kind
    # What is below wet water is wet at first, what is above a dry name is dry.
    if mask_of(above) & wet:
        return "wet"
    if mask_of(below) & ~wet:
        return "dry"
    return "kept"
