"""Notes of deeds and looks, and what they tell of a hill and its water."""

from pourdrains.beginnings import is_beginning_of
from pourdrains.checks import need_terrace
from pourdrains.errors import BadTerrace, NoneFits
from pourdrains.hills import need_small_book
from pourdrains.noting import MOST_NAMES, fits_and_ends, is_notes_of, need_notes
from pourdrains.things import has_items


def is_notes(book, thing):
    """Whether any value is notes."""
    need_small_book(book, MOST_NAMES)
    return is_notes_of(book[0], thing)


def fitting(book, notes):
    """The ascending tuple of all beginnings that fit."""
    need_notes(book, notes)
    return tuple(beginning for beginning, _ in fits_and_ends(book, notes))


def many_fitting(book, notes):
    """How many beginnings fit."""
    need_notes(book, notes)
    return len(fits_and_ends(book, notes))


def _some_fits(book, notes):
    found = fits_and_ends(book, notes)
    if not found:
        raise NoneFits()
    return found


def _fits_for_pair(book, notes, a, b):
    """The beginnings that fit with a below b, and those without."""
    need_notes(book, notes)
    need_terrace(book[0], a)
    need_terrace(book[0], b)
    if a == b:
        raise BadTerrace(b)
    found = [beginning for beginning, _ in _some_fits(book, notes)]
    below = [beginning for beginning in found if (a, b) in beginning[0][1]]
    return below, [beginning for beginning in found if (a, b) not in beginning[0][1]]


def judge_pair(book, notes, a, b):
    """A certificate of whether a lies below b: that it is sure, or that it is open."""
    below, others = _fits_for_pair(book, notes, a, b)
    if below and others:
        return "open", below[0], others[0]
    return "sure", not others


def pair_holds(book, notes, a, b, thing):
    """Whether any value is a certificate of whether a lies below b."""
    below, others = _fits_for_pair(book, notes, a, b)
    if has_items(thing, 2):
        return thing[0] == "sure" and ((thing[1] is True and not others) or (thing[1] is False and not below))
    if not has_items(thing, 3) or thing[0] != "open":
        return False
    return _is_among(book, thing[1], below) and _is_among(book, thing[2], others)


def _is_among(book, thing, beginnings):
    # A value with True in the place of 1 equals a beginning, but is none.
    return is_beginning_of(book, thing) and thing in beginnings


def sure_pairs(book, notes):
    """The ascending tuple of the pairs (a, b) of which it is sure that a lies below b."""
    need_notes(book, notes)
    grounds = [beginning[0] for beginning, _ in _some_fits(book, notes)]
    return tuple(pair for pair in grounds[0][1] if all(pair in ground[1] for ground in grounds))


def water_now(book, notes):
    """For each name whether it is wet behind all entries: wet, dry or open."""
    need_notes(book, notes)
    return tuple(_told(wet, dry) for wet, dry in _counts(book, notes))


def _told(wet, dry):
    if wet and dry:
        return "open"
    return "wet" if wet else "dry"


def _counts(book, notes):
    """For each name how many beginnings that fit have it wet behind all entries, and how many dry."""
    ends = [wet for _, wet in _some_fits(book, notes)]
    wets = [sum(wet >> name & 1 for wet in ends) for name in range(book[0])]
    return [(many, len(ends) - many) for many in wets]


def best_look(book, notes):
    """The least name that parts the beginnings that fit best, and how many have it wet, and how many dry."""
    need_notes(book, notes)
    rows = [(max(wet, dry), name, wet, dry) for name, (wet, dry) in enumerate(_counts(book, notes))]
    return min(rows)[1:]
