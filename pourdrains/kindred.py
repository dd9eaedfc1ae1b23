"""Kinds that stand on a hill, least parts with the same kinds, and hills that are alike but for names."""

from pourdrains.checks import is_terrace_of
from pourdrains.errors import BadHill, BadLot
from pourdrains.hills import need_hill
from pourdrains.masks import above_masks, below_masks, lot_of
from pourdrains.things import has_items, is_just


def _kinds_of_terraces(hill, names):
    """The kind of each terrace of a hill; raises BadHill, and BadLot for what is no names."""
    need_hill(hill)
    if not _are_names_of(hill[0], names):
        raise BadLot(names)
    return [
        (_positions(names, below), _positions(names, above))
        for below, above in zip(below_masks(hill), above_masks(hill))
    ]


def _are_names_of(many, thing):
    if not isinstance(thing, tuple) or not thing or not all(is_terrace_of(many, name) for name in thing):
        return False
    return len(set(thing)) == len(thing)


def _positions(names, mask):
    return tuple(at for at, name in enumerate(names) if mask >> name & 1)


def kinds_on(hill, names):
    """The ascending tuple of the kinds that stand on a hill."""
    return tuple(sorted(set(_kinds_of_terraces(hill, names))))


def least_part(hill, names):
    """The lot of the names, and of the least terrace of each kind that no name has."""
    kinds = _kinds_of_terraces(hill, names)
    part = list(names)
    known = {kinds[name]: True for name in names}
    for at, kind in enumerate(kinds):
        if kind not in known:
            known[kind] = True
            part.append(at)
    return tuple(sorted(part))


def _need_hills(one, other):
    need_hill(one)
    need_hill(other)
    if one[0] != other[0]:
        raise BadHill(other)


def _counts(hill):
    """For each terrace: how many lie at or below it, and how many at or above it."""
    return [(len(lot_of(below)), len(lot_of(above))) for below, above in zip(below_masks(hill), above_masks(hill))]


def _first_names(one, other):
    """The first tuple that leads the one hill to the other one; None if there is none."""
    counts, asked = _counts(one), _counts(other)
    above, wanted = above_masks(one), above_masks(other)
    rows = [()]
    while rows:
        row = rows.pop()
        at = len(row)
        if at == one[0]:
            return row
        places = [place for place in range(one[0]) if place not in row and counts[at] == asked[place]]
        # The row that is looked at next is the last one: that with the least place.
        rows.extend([row + (place,) for place in places[::-1] if _goes_on(above, wanted, row, place)])
    return None


def _goes_on(above, wanted, row, place):
    """Whether the next terrace can lead to a place, when those ahead of it lead to the places of a row."""
    at = len(row)
    for ahead, taken in enumerate(row):
        if above[ahead] >> at & 1 != wanted[taken] >> place & 1 or above[at] >> ahead & 1 != wanted[place] >> taken & 1:
            return False
    return True


def _unlike_counts(one, other):
    """The certificate that two hills have unlike counts; None if they are equal."""
    counts, asked = tuple(sorted(_counts(one))), tuple(sorted(_counts(other)))
    if counts == asked:
        return None
    return "counts", counts, asked


def judge_hills(one, other):
    """A certificate that two hills are alike but for names, or that they are not."""
    _need_hills(one, other)
    unlike = _unlike_counts(one, other)
    if unlike is not None:
        return unlike
    names = _first_names(one, other)
    if names is None:
        return ("none",)
    return "names", names


def hills_hold(one, other, thing):
    """Whether any value is a certificate that two hills are alike but for names, or that they are not."""
    _need_hills(one, other)
    if has_items(thing, 2):
        return thing[0] == "names" and _are_leading(one, other, thing[1])
    if has_items(thing, 1):
        return is_just(thing, judge_hills(one, other))
    unlike = _unlike_counts(one, other)
    return unlike is not None and is_just(thing, unlike)


def _are_leading(one, other, thing):
    if not has_items(thing, one[0]) or not _are_names_of(one[0], thing):
        return False
    above, wanted = above_masks(one), above_masks(other)
    return all(_goes_on(above, wanted, thing[:at], thing[at]) for at in range(one[0]))
