"""Whether all weavings of a plan do the same on all hills that fit, what can be last, and waits."""

from pourdrains.checks import is_lower_and_upper, need_kind
from pourdrains.deeds import couple_behind, reaches
from pourdrains.hills import need_book, need_hill
from pourdrains.masks import closed, lot_of
from pourdrains.orders import ahead_masks, free_positions, is_plan_of, is_weaving_of, need_plan, order_of
from pourdrains.orders import woven_by
from pourdrains.standings import kind_between, standing_of
from pourdrains.things import are_pairs_of, has_items
from pourdrains.waiting import clashing, least_waits, order_masks, reaching_mask, rivals


def _need_plan_of_book(book, plan):
    need_book(book)
    need_plan(book[0], plan)


def _clashes_of(hill, plan):
    return clashing(order_masks(plan), rivals(hill, plan[0]))


def can_be_last(book, plan, kind):
    """The ascending tuple of the positions that can be last for a kind."""
    _need_plan_of_book(book, plan)
    need_kind(closed(book), kind)
    order = order_masks(plan)
    reaching = reaching_mask(plan[0], kind)
    return tuple(at for at in lot_of(reaching) if order[at] & reaching == 0)


def judge_certain(book, plan):
    """A certificate that all woven scripts are alike, or of two weavings and a kind at which they part."""
    _need_plan_of_book(book, plan)
    hill = closed(book)
    found = _clashes_of(hill, plan)
    if not found:
        return ("certain",)
    i, j = found[0]
    below, above = kind_between(hill, plan[0][j][1], plan[0][i][1])
    return "parts", _weaving_with_last(plan, i), _weaving_with_last(plan, j), below, above


def _weaving_with_last(plan, last):
    """A weaving in which all deeds that need not come behind a position come ahead of it."""
    behind = order_masks(plan)[last]
    order = order_of(len(plan[0]), plan[1])
    ahead = [at for at in order if at != last and not behind >> at & 1]
    return tuple(ahead + [last] + [at for at in order if behind >> at & 1])


def certain_holds(book, plan, thing):
    """Whether any value is a certificate that all woven scripts are alike, or of where two of them part."""
    _need_plan_of_book(book, plan)
    hill = closed(book)
    if has_items(thing, 1):
        return thing[0] == "certain" and not _clashes_of(hill, plan)
    if not has_items(thing, 5) or thing[0] != "parts" or not is_lower_and_upper(hill, thing[3:]):
        return False
    if not is_weaving_of(plan, thing[1]) or not is_weaving_of(plan, thing[2]):
        return False
    one, other = woven_by(plan, thing[1]), woven_by(plan, thing[2])
    return standing_of(one, thing[3:]) != standing_of(other, thing[3:])


def clashes(book, plan):
    """The ascending tuple of the pairs of a pour's and an open's position both of which can be last for a kind."""
    _need_plan_of_book(book, plan)
    return tuple(_clashes_of(closed(book), plan))


def are_waits(book, plan, thing):
    """Whether any value is waits that are enough."""
    _need_plan_of_book(book, plan)
    deeds, pairs = plan
    if not are_pairs_of(len(deeds), thing):
        return False
    # A pair of the plan would stand there twice, and no plan has a pair twice.
    longer = deeds, tuple(sorted(pairs + thing))
    return is_plan_of(book[0], longer) and not _clashes_of(closed(book), longer)


def fewest_waits(book, plan):
    """Waits that are enough, as few as can be."""
    _need_plan_of_book(book, plan)
    return least_waits(closed(book), plan)


def ends(hill, plan):
    """The ascending tuple of the couples of all woven scripts on a told hill."""
    need_hill(hill)
    need_plan(hill[0], plan)
    many = len(plan[0])
    ahead = ahead_masks(many, plan[1])
    reached = reaches(hill)
    # For each mask of deeds that are done, the couples to which they can lead.
    found = {0: {(0, 0): True}}
    for _ in range(many):
        longer = {}
        for done, led in found.items():
            for at in free_positions(ahead, done):
                deed = plan[0][at]
                known = longer.setdefault(done | 1 << at, {})
                for couple in led:
                    known[couple_behind(couple, deed, reached[deed])] = True
        found = longer
    return tuple(sorted((lot_of(wet), lot_of(dry)) for last in found.values() for wet, dry in last))
