"""Whether two scripts do the same on all hills that fit a book, and whether one is never wetter."""

from pourdrains.checks import is_lower_and_upper, need_script
from pourdrains.hills import need_book
from pourdrains.masks import above_masks, closed
from pourdrains.standings import is_wetter, standing_of, telling_kinds
from pourdrains.stepping import led_along, steps_back
from pourdrains.things import has_items
from pourdrains.tidying import tidied


def _need_scripts(book, one, other):
    need_book(book)
    need_script(book[0], one)
    need_script(book[0], other)


def _parting_kind(hill, one, other):
    for kind in telling_kinds(hill):
        if standing_of(one, kind) != standing_of(other, kind):
            return kind
    return None


def are_alike(book, one, other):
    """Whether two scripts are alike."""
    _need_scripts(book, one, other)
    return _parting_kind(closed(book), one, other) is None


def judge_alike(book, one, other):
    """A certificate that two scripts are alike, or of a kind at which they part."""
    _need_scripts(book, one, other)
    hill = closed(book)
    kind = _parting_kind(hill, one, other)
    if kind is not None:
        return "parts", kind[0], kind[1]
    # Both lead to the same tidy script.
    ahead = tidied(hill, one)[0]
    back = steps_back(above_masks(hill), other, tidied(hill, other)[0])
    return "steps", tuple(ahead + back)


def alike_holds(book, one, other, thing):
    """Whether any value is a certificate that two scripts are alike, or of a kind at which they part."""
    _need_scripts(book, one, other)
    hill = closed(book)
    if has_items(thing, 2):
        return thing[0] == "steps" and _are_steps(hill, one, other, thing[1])
    if not has_items(thing, 3) or thing[0] != "parts" or not is_lower_and_upper(hill, thing[1:]):
        return False
    return standing_of(one, thing[1:]) != standing_of(other, thing[1:])


def _are_steps(hill, one, other, thing):
    return isinstance(thing, tuple) and led_along(above_masks(hill), one, thing) == other


def _wetter_kind(hill, one, other):
    for kind in telling_kinds(hill):
        if is_wetter(standing_of(one, kind), standing_of(other, kind)):
            return kind
    return None


def judge_never_wetter(book, one, other):
    """A certificate that a script is never wetter than another one, or of a kind at which it is."""
    _need_scripts(book, one, other)
    kind = _wetter_kind(closed(book), one, other)
    if kind is None:
        return ("never",)
    return "wetter", kind[0], kind[1]


def never_wetter_holds(book, one, other, thing):
    """Whether any value is a certificate that a script is never wetter, or of a kind at which it is."""
    _need_scripts(book, one, other)
    hill = closed(book)
    if has_items(thing, 1):
        return thing[0] == "never" and _wetter_kind(hill, one, other) is None
    if not has_items(thing, 3) or thing[0] != "wetter" or not is_lower_and_upper(hill, thing[1:]):
        return False
    return is_wetter(standing_of(one, thing[1:]), standing_of(other, thing[1:]))
