"""How scripts leave the kinds of a book, for values that have been checked.

The hill is here the closing of the book.
"""

from pourdrains.masks import above_masks, below_masks, lot_of

WETNESS = {"dry": 0, "kept": 1, "wet": 2}


def reaches_kind(deed, kind):
    """Whether a deed reaches a kind."""
    sort, name = deed
    below, above = kind
    return name in above if sort == "pour" else name in below


def standing_of(script, kind):
    """How a script leaves a kind: wet, dry or kept."""
    left = "kept"
    for deed in script:
        if reaches_kind(deed, kind):
            left = "wet" if deed[0] == "pour" else "dry"
    return left


def is_wetter(one, other):
    """Whether a standing is wetter than another one."""
    return WETNESS[one] > WETNESS[other]


def kind_between(hill, low, high):
    """The kind of the names at or below one name, and of those at or above another one."""
    return lot_of(below_masks(hill)[low]), lot_of(above_masks(hill)[high])


def telling_kinds(hill):
    """The kinds at which scripts that are not alike part: under names, over names, and between them."""
    lowers = [lot_of(mask) for mask in below_masks(hill)]
    uppers = [lot_of(mask) for mask in above_masks(hill)]
    under = [((), above) for above in uppers]
    over = [(below, ()) for below in lowers]
    return under + over + [(below, above) for below in lowers for above in uppers]
