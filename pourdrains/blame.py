"""Who is to blame for what a script leaves on a told hill: deciders, strikes, places changed, hands."""

from pourdrains.checks import is_terrace_of, need_script, need_terrace
from pourdrains.deeds import couple_masks, reaches
from pourdrains.errors import BadWishes
from pourdrains.hills import need_hill
from pourdrains.masks import lot_of, mask_of
from pourdrains.orders import need_hands
from pourdrains.things import has_items, is_ascending, is_within

STANDINGS = ("wet", "dry", "kept")


def _need_script_of(hill, script):
    need_hill(hill)
    need_script(hill[0], script)


def deciders(hill, script):
    """For each terrace the position of the deed that decides it, None if there is none."""
    _need_script_of(hill, script)
    reached = reaches(hill)
    found = [None] * hill[0]
    for at, deed in enumerate(script):
        for terrace in lot_of(reached[deed]):
            found[terrace] = at
    return tuple(found)


def needless(hill, script):
    """The ascending tuple of the positions of the needless deeds."""
    _need_script_of(hill, script)
    couple = couple_masks(hill, script)
    return tuple(at for at in range(len(script)) if couple_masks(hill, _without(script, (at,))) == couple)


def _without(script, positions):
    return tuple(deed for at, deed in enumerate(script) if at not in positions)


def loose_places(hill, script):
    """The ascending tuple of the positions at which neighbouring deeds may change places."""
    _need_script_of(hill, script)
    couple = couple_masks(hill, script)
    return tuple(at for at in range(len(script) - 1) if couple_masks(hill, _exchanged(script, at)) == couple)


def _exchanged(script, at):
    return script[:at] + (script[at + 1], script[at]) + script[at + 2 :]


def _are_wishes_of(many, thing):
    if not isinstance(thing, tuple) or not all(_is_wish(many, wish) for wish in thing):
        return False
    return is_ascending([terrace for terrace, _ in thing])


def _is_wish(many, thing):
    return has_items(thing, 2) and is_terrace_of(many, thing[0]) and thing[1] in STANDINGS


def _need_wishes(hill, script, wishes):
    _need_script_of(hill, script)
    if not _are_wishes_of(hill[0], wishes):
        raise BadWishes(wishes)


def _wished(wishes, standing):
    return mask_of([terrace for terrace, told in wishes if told == standing])


def _meets(hill, script, wishes):
    wet, dry = couple_masks(hill, script)
    kept = ~(wet | dry)
    missed = _wished(wishes, "wet") & ~wet | _wished(wishes, "dry") & ~dry | _wished(wishes, "kept") & ~kept
    return missed == 0


def meets(hill, script, wishes):
    """Whether a script meets wishes."""
    _need_wishes(hill, script, wishes)
    return _meets(hill, script, wishes)


def are_strikes(hill, script, wishes, thing):
    """Whether any value is strikes for wishes."""
    _need_wishes(hill, script, wishes)
    if not isinstance(thing, tuple) or not all(is_within(at, 0, len(script) - 1) for at in thing):
        return False
    return is_ascending(thing) and _meets(hill, _without(script, thing), wishes)


def fewest_strikes(hill, script, wishes):
    """Strikes for wishes, as few as can be; None if there are none."""
    _need_wishes(hill, script, wishes)
    reached = reaches(hill)
    wet, dry, kept = [_wished(wishes, standing) for standing in STANDINGS]
    barred = {"pour": dry | kept, "open": wet | kept}
    # From the last deed to the first one: for each mask of wishes that are met for good, the fewest strikes.
    found = {0: ()}
    for at in range(len(script) - 1, -1, -1):
        reach = reached[script[at]]
        ahead = {}
        for met, strikes in found.items():
            _take_fewer(ahead, met, (at,) + strikes)
            if reach & barred[script[at][0]] & ~met == 0:
                _take_fewer(ahead, met | reach & (wet | dry), strikes)
        found = ahead
    return found.get(wet | dry)


def _take_fewer(found, met, strikes):
    if met not in found or len(strikes) < len(found[met]):
        found[met] = strikes


def laid_to(hill, hands, terrace):
    """The ascending tuple of the numbers of the hands that a terrace may be laid to."""
    need_hill(hill)
    need_hands(hill[0], hands)
    need_terrace(hill[0], terrace)
    reached = reaches(hill)
    # The last deed of a hand that reaches the terrace decides it where this hand comes behind all others.
    return tuple(at for at, script in enumerate(hands) if any(reached[deed] >> terrace & 1 for deed in script))
