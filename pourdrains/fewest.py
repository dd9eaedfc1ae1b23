"""The fewest deeds that make a couple."""

from pourdrains.checks import need_couple
from pourdrains.errors import BadHill
from pourdrains.hills import is_tree, need_hill
from pourdrains.making import least_making, making_script
from pourdrains.masks import below_masks, highest_of, lowest_of, mask_of


def _even_prices(many):
    return (1,) * many, (1,) * many


def fewest(hill, couple):
    """The least number of deeds of a script that makes a couple."""
    need_hill(hill)
    need_couple(hill, couple)
    return least_making(hill, couple, _even_prices(hill[0]))


def fewest_script(hill, couple):
    """A script that makes a couple with the fewest deeds."""
    need_hill(hill)
    need_couple(hill, couple)
    return making_script(hill, couple, _even_prices(hill[0]))


def serving(hill, couple):
    """The highest terraces that serve a couple, and the lowest ones that it leaves dry; on trees alone."""
    if not is_tree(hill):
        raise BadHill(hill)
    need_couple(hill, couple)
    wet, dry = mask_of(couple[0]), mask_of(couple[1])
    serve = 0
    for at, below in enumerate(below_masks(hill)):
        if below & ~(wet | dry) == 0 and below & wet:
            serve |= 1 << at
    return highest_of(hill, serve), lowest_of(hill, dry)
