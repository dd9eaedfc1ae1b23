"""Deeds as masks, on hills and scripts that have been checked.

A couple is here a pair of masks: what is left wet, and what is left dry.
"""

from pourdrains.masks import above_masks, below_masks


def reaches(hill):
    """The mask of the reach of each deed at a hill."""
    found = {}
    for at, mask in enumerate(below_masks(hill)):
        found[("pour", at)] = mask
    for at, mask in enumerate(above_masks(hill)):
        found[("open", at)] = mask
    return found


def wet_behind(water, deed, reach):
    """The mask of the water that a deed with a reach leaves."""
    if deed[0] == "pour":
        return water | reach
    return water & ~reach


def couple_behind(couple, deed, reach):
    """The couple of a script with a couple and a deed with a reach behind it."""
    wet, dry = couple
    if deed[0] == "pour":
        return wet | reach, dry & ~reach
    return wet & ~reach, dry | reach


def couple_masks(hill, script):
    """The couple of a script."""
    reached = reaches(hill)
    couple = 0, 0
    for deed in script:
        couple = couple_behind(couple, deed, reached[deed])
    return couple


def priced_deeds(hill, prices):
    """All deeds at a hill, each with its reach and its price."""
    pours, opens = prices
    costs = {"pour": pours, "open": opens}
    return [(deed, reach, costs[deed[0]][deed[1]]) for deed, reach in reaches(hill).items()]


def price_of(prices, script):
    """The price of a script."""
    pours, opens = prices
    return sum(pours[at] if sort == "pour" else opens[at] for sort, at in script)
