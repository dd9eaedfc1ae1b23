"""Orders of positions: a pair (i, j) says that the position i comes ahead of j. Masks hold positions."""

from pourdrains.checks import is_script_of
from pourdrains.errors import BadPlan
from pourdrains.masks import mask_of, union_of
from pourdrains.things import are_pairs_of, has_items, is_integer, is_within

MOST_HANDS = 4


def ahead_masks(many, pairs):
    """For each of so many positions the mask of those that pairs tell to come ahead of it."""
    masks = [0] * many
    for i, j in pairs:
        masks[j] |= 1 << i
    return masks


def free_positions(ahead, done):
    """The positions that can come next when just those of a mask are done."""
    return [at for at, needed in enumerate(ahead) if not done >> at & 1 and needed & ~done == 0]


def order_of(many, pairs):
    """An order of so many positions that keeps all pairs, as a list; None if there is none."""
    ahead = ahead_masks(many, pairs)
    order, done = [], 0
    while len(order) < many:
        free = free_positions(ahead, done)
        if not free:
            return None
        order.extend(free)
        done |= mask_of(free)
    return order


def behind_masks(many, pairs):
    """For each of so many positions the mask of those that have to come behind it, by one pair or by several."""
    straight = [0] * many
    for i, j in pairs:
        straight[i] |= 1 << j
    behind = list(straight)
    for at in order_of(many, pairs)[::-1]:
        behind[at] = straight[at] | union_of(behind, straight[at])
    return behind


def is_plan_of(many, thing):
    """Whether any value is a plan at so many names."""
    if not has_items(thing, 2) or not is_script_of(many, thing[0]):
        return False
    deeds, pairs = thing
    return are_pairs_of(len(deeds), pairs) and order_of(len(deeds), pairs) is not None


def need_plan(many, plan):
    """Raise BadPlan for what is no plan at so many names."""
    if not is_plan_of(many, plan):
        raise BadPlan(plan)


def need_hands(many, hands):
    """Raise BadPlan for what is no tuple of 1 to 4 scripts at so many names."""
    if not isinstance(hands, tuple) or not is_within(len(hands), 1, MOST_HANDS):
        raise BadPlan(hands)
    if not all(is_script_of(many, script) for script in hands):
        raise BadPlan(hands)


def is_weaving_of(plan, thing):
    """Whether any value is a weaving of a plan."""
    deeds, pairs = plan
    if not has_items(thing, len(deeds)) or not all(is_integer(at) for at in thing):
        return False
    if sorted(thing) != list(range(len(deeds))):
        return False
    places = {at: place for place, at in enumerate(thing)}
    return all(places[i] < places[j] for i, j in pairs)


def woven_by(plan, weaving):
    """The script of a weaving of a plan."""
    return tuple(plan[0][at] for at in weaving)
