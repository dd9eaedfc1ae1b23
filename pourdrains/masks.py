"""Lots as integers: the bit at t says whether the terrace t is in the lot.

All functions rest on hills that have been checked.
"""


def mask_of(lot):
    """The mask of a lot."""
    mask = 0
    for terrace in lot:
        mask |= 1 << terrace
    return mask


def lot_of(mask):
    """The lot of a mask."""
    return tuple(at for at in range(mask.bit_length()) if mask >> at & 1)


def above_masks(book):
    """For each name the mask of itself and of all that a pair tells to be above it."""
    many, pairs = book
    masks = [1 << at for at in range(many)]
    for a, b in pairs:
        masks[a] |= 1 << b
    return masks


def below_masks(book):
    """For each name the mask of itself and of all that a pair tells to be below it."""
    many, pairs = book
    masks = [1 << at for at in range(many)]
    for a, b in pairs:
        masks[b] |= 1 << a
    return masks


def closed(book):
    """The hill with the fewest pairs that has all pairs of a book."""
    many = book[0]
    above = above_masks(book)
    for middle in range(many):
        for a in range(many):
            if above[a] >> middle & 1:
                above[a] |= above[middle]
    return many, tuple((a, b) for a in range(many) for b in lot_of(above[a]) if a != b)


def union_of(masks, mask):
    """All that the masks at the terraces of a mask have together."""
    union = 0
    for terrace in lot_of(mask):
        union |= masks[terrace]
    return union


def is_shut(masks, mask):
    """Whether a mask has, with each of its terraces, all of the mask at this one."""
    return union_of(masks, mask) == mask


def pond_masks(hill):
    """For each terrace the mask of its pond."""
    return [above & below for above, below in zip(above_masks(hill), below_masks(hill))]


def strictly_above(hill):
    """For each terrace the mask of those strictly above it."""
    return [above & ~below for above, below in zip(above_masks(hill), below_masks(hill))]


def strictly_below(hill):
    """For each terrace the mask of those strictly below it."""
    return [below & ~above for above, below in zip(above_masks(hill), below_masks(hill))]


def just_above_mask(hill, terrace):
    """The mask of the terraces just above one."""
    above = strictly_above(hill)
    return above[terrace] & ~union_of(above, above[terrace])


def outermost(hill, mask, further):
    """The lot of those of a mask that have none of it further out, the least one of each pond alone."""
    ponds = pond_masks(hill)
    ends = [at for at in lot_of(mask) if further[at] & mask == 0]
    return tuple(at for at in ends if lot_of(ponds[at] & mask)[0] == at)


def highest_of(hill, mask):
    """The lot of the highest terraces of a mask."""
    return outermost(hill, mask, strictly_above(hill))


def lowest_of(hill, mask):
    """The lot of the lowest terraces of a mask."""
    return outermost(hill, mask, strictly_below(hill))


def lower_masks(hill):
    """The masks of all lower lots."""
    below = below_masks(hill)
    return [mask for mask in range(1 << hill[0]) if is_shut(below, mask)]


def upper_masks(hill):
    """The masks of all upper lots."""
    above = above_masks(hill)
    return [mask for mask in range(1 << hill[0]) if is_shut(above, mask)]
