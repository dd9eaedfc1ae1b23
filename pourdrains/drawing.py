"""Weights of drawn deeds, as triples of a deed, the mask of its reach and its integer."""

from pourdrains.checks import is_deed_of
from pourdrains.deeds import reaches
from pourdrains.errors import BadWeights
from pourdrains.hills import need_hill
from pourdrains.things import has_items, is_ascending, is_within

MOST_WEIGHT = 1000


def are_weights_of(many, thing):
    """Whether any value is weights for so many terraces."""
    if not isinstance(thing, tuple) or not all(_is_weight(many, pair) for pair in thing):
        return False
    return len(thing) > 0 and is_ascending([deed for deed, _ in thing])


def _is_weight(many, thing):
    return has_items(thing, 2) and is_deed_of(many, thing[0]) and is_within(thing[1], 1, MOST_WEIGHT)


def read_weights(hill, weights):
    """The triples of weights; raises BadHill for what is no hill, BadWeights for what is no weights for it."""
    need_hill(hill)
    if not are_weights_of(hill[0], weights):
        raise BadWeights(weights)
    reached = reaches(hill)
    return [(deed, reached[deed], weight) for deed, weight in weights]


def sum_of_weights(drawn):
    """The sum of the integers of triples."""
    return sum(weight for _, _, weight in drawn)


def weight_within(drawn, lot):
    """The sum of the integers of the triples whose reach lies within a mask."""
    return sum(weight for _, reach, weight in drawn if reach & ~lot == 0)
