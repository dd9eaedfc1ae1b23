"""Kinds of terraces, told by the names of a book, and how scripts leave them."""

from pourdrains.checks import is_lower_and_upper, need_kind, need_script, need_terrace
from pourdrains.errors import BadNumber
from pourdrains.hills import need_book, need_hill
from pourdrains.masks import above_masks, below_masks, closed, lot_of
from pourdrains.standings import standing_of
from pourdrains.things import is_within


def is_kind(book, thing):
    """Whether any value is a kind for a book."""
    need_book(book)
    return is_lower_and_upper(closed(book), thing)


def world_of(book, kind):
    """The closing of a book with a further terrace of a kind."""
    need_book(book)
    need_kind(closed(book), kind)
    many, pairs = book
    below, above = kind
    further = tuple((name, many) for name in below) + tuple((many, name) for name in above)
    return closed((many + 1, pairs + further))


def standing(book, script, kind):
    """How a script leaves a terrace of a kind: wet, dry or kept."""
    need_book(book)
    need_script(book[0], script)
    need_kind(closed(book), kind)
    return standing_of(script, kind)


def kind_in(hill, names, terrace):
    """The kind, told by the names below a number, that a terrace of a hill has."""
    need_hill(hill)
    if not is_within(names, 1, hill[0]):
        raise BadNumber(names)
    need_terrace(hill[0], terrace)
    named = (1 << names) - 1
    return lot_of(below_masks(hill)[terrace] & named), lot_of(above_masks(hill)[terrace] & named)
