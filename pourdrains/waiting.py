"""Which deeds of a plan can be last, where they clash, and waits against that, for plans that have been checked.

An order is here the tuple that tells for each position the mask of those that have to come behind it.
"""

from pourdrains.orders import behind_masks
from pourdrains.masks import lot_of, mask_of, union_of
from pourdrains.standings import kind_between, reaches_kind


def order_masks(plan):
    """The order of a plan."""
    return tuple(behind_masks(len(plan[0]), plan[1]))


def reaching_mask(deeds, kind):
    """The mask of the positions of the deeds that reach a kind."""
    return mask_of([at for at, deed in enumerate(deeds) if reaches_kind(deed, kind)])


def rivals(hill, deeds):
    """All positions of a pour and of an open, with the mask of those that reach the kind between the two."""
    found = []
    for i, (sort, high) in enumerate(deeds):
        for j, (further, low) in enumerate(deeds):
            if sort == "pour" and further == "open":
                found.append((i, j, reaching_mask(deeds, kind_between(hill, low, high))))
    return found


def clashing(order, found):
    """Those of the rivals both of which can be last."""
    return [(i, j) for i, j, reaching in found if (order[i] | order[j]) & reaching == 0]


def least_waits(hill, plan):
    """Waits that are enough, as few as can be, as an ascending tuple."""
    found = rivals(hill, plan[0])
    first = order_masks(plan)
    if not clashing(first, found):
        return ()
    level = {first: ()}
    while True:
        longer = {}
        for order, waits in level.items():
            for i, j in _useful_waits(order, clashing(order, found)[0]):
                led = _with_wait(order, i, j)
                if led not in longer:
                    longer[led] = waits + ((i, j),)
                    if not clashing(led, found):
                        return tuple(sorted(longer[led]))
        level = longer


def _useful_waits(order, clash):
    """The waits one of which is needed, whatever the others are, against a clash."""
    # Some deed has to come behind one of the two that clash: the first wait on the way there begins at
    # one of them or behind it.
    starts = mask_of(clash) | union_of(order, mask_of(clash))
    return [(i, j) for i in lot_of(starts) for j in range(len(order)) if _is_open(order, i, j)]


def _is_open(order, i, j):
    return i != j and not order[i] >> j & 1 and not order[j] >> i & 1


def _with_wait(order, i, j):
    more = order[j] | 1 << j
    return tuple(mask | more if at == i or mask >> i & 1 else mask for at, mask in enumerate(order))
