"""Whether any value is what is asked for, on a hill that has been checked.

need_... raises the error that belongs to it. Where the number of terraces
is enough to tell, it is passed in the place of the hill, so that the names
of a book can be checked likewise.
"""

from pourdrains.errors import BadCouple, BadDeed, BadKind, BadLot, BadNumber, BadPrices, BadScript
from pourdrains.errors import BadTerrace, BadWater
from pourdrains.masks import above_masks, below_masks, is_shut, mask_of
from pourdrains.things import has_items, is_ascending, is_integer, is_within

MOST_PRICE = 1000


def is_terrace_of(many, thing):
    """Whether any value is one of so many terraces."""
    return is_within(thing, 0, many - 1)


def is_lot_of(many, thing):
    """Whether any value is a lot of so many terraces."""
    if not isinstance(thing, tuple):
        return False
    return all(is_terrace_of(many, terrace) for terrace in thing) and is_ascending(thing)


def is_lower_of(hill, thing):
    """Whether any value is a lower lot."""
    return is_lot_of(hill[0], thing) and is_shut(below_masks(hill), mask_of(thing))


def is_upper_of(hill, thing):
    """Whether any value is an upper lot."""
    return is_lot_of(hill[0], thing) and is_shut(above_masks(hill), mask_of(thing))


def is_lower_and_upper(hill, thing):
    """Whether any value is a pair of a lower lot and an upper lot."""
    return has_items(thing, 2) and is_lower_of(hill, thing[0]) and is_upper_of(hill, thing[1])


def is_couple_of(hill, thing):
    """Whether any value is a couple."""
    return is_lower_and_upper(hill, thing) and mask_of(thing[0]) & mask_of(thing[1]) == 0


def is_deed_of(many, thing):
    """Whether any value is a deed at one of so many terraces."""
    return has_items(thing, 2) and thing[0] in ("pour", "open") and is_terrace_of(many, thing[1])


def is_script_of(many, thing):
    """Whether any value is a script at so many terraces."""
    return isinstance(thing, tuple) and all(is_deed_of(many, deed) for deed in thing)


def are_prices_of(many, thing):
    """Whether any value is prices for so many terraces."""
    if not has_items(thing, 2) or not has_items(thing[0], many) or not has_items(thing[1], many):
        return False
    return all(is_within(price, 1, MOST_PRICE) for price in thing[0] + thing[1])


def need_terrace(many, terrace):
    """Raise BadTerrace for what is none of so many terraces."""
    if not is_terrace_of(many, terrace):
        raise BadTerrace(terrace)


def need_lot(many, lot):
    """Raise BadLot for what is no lot of so many terraces."""
    if not is_lot_of(many, lot):
        raise BadLot(lot)


def need_water(hill, water):
    """Raise BadWater for what is no lower lot."""
    if not is_lower_of(hill, water):
        raise BadWater(water)


def need_couple(hill, couple):
    """Raise BadCouple for what is no couple."""
    if not is_couple_of(hill, couple):
        raise BadCouple(couple)


def need_deed(many, deed):
    """Raise BadDeed for what is no deed at so many terraces."""
    if not is_deed_of(many, deed):
        raise BadDeed(deed)


def need_script(many, script):
    """Raise BadScript for what is no script at so many terraces."""
    if not is_script_of(many, script):
        raise BadScript(script)


def need_kind(hill, kind):
    """Raise BadKind for what is no kind for a book with this closing."""
    if not is_lower_and_upper(hill, kind):
        raise BadKind(kind)


def need_prices(many, prices):
    """Raise BadPrices for what is no prices for so many terraces."""
    if not are_prices_of(many, prices):
        raise BadPrices(prices)


def need_count(most):
    """Raise BadNumber for what is no integer from 0 on."""
    if not is_integer(most) or most < 0:
        raise BadNumber(most)
