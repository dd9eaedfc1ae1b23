"""Notes and the beginnings that fit them, for books that have been checked."""

from pourdrains.beginnings import beginnings_of
from pourdrains.checks import is_deed_of, is_terrace_of
from pourdrains.deeds import reaches, wet_behind
from pourdrains.errors import BadNotes
from pourdrains.hills import need_small_book
from pourdrains.masks import mask_of
from pourdrains.things import has_items

MOST_NAMES = 4
MOST_ENTRIES = 12


def is_notes_of(many, thing):
    """Whether any value is notes at so many names."""
    if not isinstance(thing, tuple) or len(thing) > MOST_ENTRIES:
        return False
    return all(_is_entry(many, entry) for entry in thing)


def _is_entry(many, thing):
    if has_items(thing, 2):
        return thing[0] == "do" and is_deed_of(many, thing[1])
    if not has_items(thing, 3) or thing[0] != "saw":
        return False
    return is_terrace_of(many, thing[1]) and isinstance(thing[2], bool)


def need_notes(book, notes):
    """Raise BadBook for what is no book for notes, and BadNotes for what is no notes for it."""
    need_small_book(book, MOST_NAMES)
    if not is_notes_of(book[0], notes):
        raise BadNotes(notes)


def wet_past(wet, entry, reached):
    """The mask of the water behind an entry; None if the entry saw otherwise than it is."""
    if entry[0] == "do":
        return wet_behind(wet, entry[1], reached[entry[1]])
    if (wet >> entry[1] & 1 == 1) != entry[2]:
        return None
    return wet


def wet_at_end(notes, beginning):
    """The mask of the water behind all entries; None if the beginning does not fit."""
    ground, water = beginning
    reached = reaches(ground)
    wet = mask_of(water)
    for entry in notes:
        wet = wet_past(wet, entry, reached)
        if wet is None:
            return None
    return wet


def fits_and_ends(book, notes):
    """The ascending list of the pairs of a beginning that fits and of the mask of the water behind all entries."""
    told = [(beginning, wet_at_end(notes, beginning)) for beginning in beginnings_of(book)]
    return [(beginning, wet) for beginning, wet in told if wet is not None]
