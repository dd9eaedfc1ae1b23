"""Hills and books, and hills made of hills."""

from pourdrains.errors import BadBook, BadHill, BadNames
from pourdrains.masks import above_masks, closed, just_above_mask, pond_masks
from pourdrains.things import are_pairs_of, has_items, is_integer, is_within

MOST_TERRACES = 10


def is_hill(thing):
    """Whether any value is a hill."""
    return is_book(thing) and _is_closed(thing)


def is_book(thing):
    """Whether any value is a book."""
    if not has_items(thing, 2):
        return False
    many, pairs = thing
    return is_within(many, 1, MOST_TERRACES) and are_pairs_of(many, pairs)


def _is_closed(book):
    above = above_masks(book)
    return all(above[a] | above[b] == above[a] for a, b in book[1])


def need_hill(hill):
    """Raise BadHill for what is no hill."""
    if not is_hill(hill):
        raise BadHill(hill)


def need_book(book):
    """Raise BadBook for what is no book."""
    if not is_book(book):
        raise BadBook(book)


def need_small_book(book, most):
    """Raise BadBook for what is no book, and for one of more names than most."""
    if not is_book(book) or book[0] > most:
        raise BadBook(book)


def closing(book):
    """The hill with the fewest pairs that has all pairs of a book."""
    need_book(book)
    return closed(book)


def mirror(hill):
    """The hill upside down."""
    need_hill(hill)
    many, pairs = hill
    return many, tuple(sorted((b, a) for a, b in pairs))


def is_tree(hill):
    """Whether no pond has two terraces, and none has two terraces just above it."""
    need_hill(hill)
    ponds = pond_masks(hill)
    return all(ponds[at] == 1 << at and _has_one(just_above_mask(hill, at)) for at in range(hill[0]))


def _has_one(mask):
    return mask & (mask - 1) == 0


def led_hill(hill, names):
    """The hill to which a renaming leads one."""
    need_hill(hill)
    many, pairs = hill
    if not _is_renaming(many, names):
        raise BadNames(names)
    return many, tuple(sorted((names[a], names[b]) for a, b in pairs))


def _is_renaming(many, thing):
    if not has_items(thing, many):
        return False
    return all(is_integer(name) for name in thing) and sorted(thing) == list(range(many))


def beside(one, other):
    """Two hills next to one another; the terraces of the other one come behind those of the one."""
    need_hill(one)
    need_hill(other)
    shift = one[0]
    moved = tuple((shift + a, shift + b) for a, b in other[1])
    return shift + other[0], one[1] + moved


def product(one, other):
    """The hill of the pairs of terraces, ordered at both places."""
    need_hill(one)
    need_hill(other)
    width = other[0]
    pairs = []
    for a, c in _pairs_and_selves(one):
        for b, d in _pairs_and_selves(other):
            if (a, b) != (c, d):
                pairs.append((a * width + b, c * width + d))
    return one[0] * width, tuple(sorted(pairs))


def _pairs_and_selves(hill):
    return hill[1] + tuple((at, at) for at in range(hill[0]))
