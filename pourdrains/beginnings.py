"""Grounds of a book, and beginnings: pairs of a ground and a water of it. Books have been checked."""

from pourdrains.checks import is_lower_of
from pourdrains.hills import is_hill
from pourdrains.masks import above_masks, lot_of, lower_masks
from pourdrains.things import has_items


def grounds_of(book):
    """The ascending list of all grounds."""
    told = above_masks(book)
    rows = [()]
    for name in range(book[0]):
        free = [mask for mask in range(1 << book[0]) if mask & told[name] == told[name]]
        rows = [row + (mask,) for row in rows for mask in free if _goes_on(row, mask)]
    return sorted(_hill_above(row) for row in rows)


def _goes_on(row, mask):
    """Whether the next name can have just a mask above it, when those ahead of it have the masks of a row."""
    name = len(row)
    for at, above in enumerate(row):
        if mask >> at & 1 and above & ~mask:
            return False
        if above >> name & 1 and mask & ~above:
            return False
    return True


def _hill_above(row):
    return len(row), tuple((a, b) for a, above in enumerate(row) for b in lot_of(above) if a != b)


def is_ground_of(book, thing):
    """Whether any value is a ground."""
    return is_hill(thing) and thing[0] == book[0] and all(pair in thing[1] for pair in book[1])


def beginnings_of(book):
    """The ascending list of all beginnings."""
    found = []
    for ground in grounds_of(book):
        found.extend(sorted((ground, lot_of(mask)) for mask in lower_masks(ground)))
    return found


def is_beginning_of(book, thing):
    """Whether any value is a beginning."""
    return has_items(thing, 2) and is_ground_of(book, thing[0]) and is_lower_of(thing[0], thing[1])
