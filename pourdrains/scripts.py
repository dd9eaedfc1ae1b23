"""Scripts of deeds on one hill, and the couples that tell what they do."""

from pourdrains.checks import is_couple_of, is_deed_of, is_lower_of, is_script_of, need_couple, need_deed
from pourdrains.checks import need_script, need_terrace, need_water
from pourdrains.deeds import couple_masks, reaches, wet_behind
from pourdrains.hills import need_hill
from pourdrains.masks import highest_of, lot_of, lower_masks, lowest_of, mask_of, upper_masks


def is_deed(hill, thing):
    """Whether any value is a deed at a hill."""
    need_hill(hill)
    return is_deed_of(hill[0], thing)


def is_script(hill, thing):
    """Whether any value is a script at a hill."""
    need_hill(hill)
    return is_script_of(hill[0], thing)


def is_water(hill, thing):
    """Whether any value is water on a hill."""
    need_hill(hill)
    return is_lower_of(hill, thing)


def is_couple(hill, thing):
    """Whether any value is a couple."""
    need_hill(hill)
    return is_couple_of(hill, thing)


def reach(hill, deed):
    """The lot of the terraces that a deed reaches."""
    need_hill(hill)
    need_deed(hill[0], deed)
    return lot_of(reaches(hill)[deed])


def run(hill, water, script):
    """The water that a script leaves."""
    need_hill(hill)
    need_water(hill, water)
    need_script(hill[0], script)
    reached = reaches(hill)
    wet = mask_of(water)
    for deed in script:
        wet = wet_behind(wet, deed, reached[deed])
    return lot_of(wet)


def couple_of(hill, script):
    """The couple of a script."""
    need_hill(hill)
    need_script(hill[0], script)
    wet, dry = couple_masks(hill, script)
    return lot_of(wet), lot_of(dry)


def last_reaching(hill, script, terrace):
    """The position of the last deed that reaches a terrace, None if there is none."""
    need_hill(hill)
    need_script(hill[0], script)
    need_terrace(hill[0], terrace)
    reached = reaches(hill)
    last = None
    for at, deed in enumerate(script):
        if reached[deed] >> terrace & 1:
            last = at
    return last


def done_to(hill, couple, water):
    """The water that a couple leaves of a water."""
    need_hill(hill)
    need_couple(hill, couple)
    need_water(hill, water)
    return lot_of(mask_of(couple[0]) | mask_of(water) & ~mask_of(couple[1]))


def couple_then(hill, one, other):
    """The couple of one couple and then another one."""
    need_hill(hill)
    need_couple(hill, one)
    need_couple(hill, other)
    wet, dry = mask_of(one[0]), mask_of(one[1])
    more, less = mask_of(other[0]), mask_of(other[1])
    return lot_of(wet & ~less | more), lot_of(dry & ~more | less)


def script_of(hill, couple):
    """A script with a couple: pours at the highest wet terraces, opens at the lowest dry ones."""
    need_hill(hill)
    need_couple(hill, couple)
    wet, dry = mask_of(couple[0]), mask_of(couple[1])
    pours = [("pour", at) for at in highest_of(hill, wet)]
    opens = [("open", at) for at in lowest_of(hill, dry)]
    return tuple(pours + opens)


def couples(hill):
    """The ascending tuple of all couples."""
    need_hill(hill)
    found = []
    uppers = upper_masks(hill)
    for wet in lower_masks(hill):
        for dry in uppers:
            if wet & dry == 0:
                found.append((lot_of(wet), lot_of(dry)))
    return tuple(sorted(found))
