"""Scripts that make a couple, read backwards, on hills that have been checked.

A state is the mask of the terraces that are decided already.
"""

from pourdrains.deeds import priced_deeds
from pourdrains.masks import mask_of
from pourdrains.searches import cheapest_ways, deeds_back


def goal_of(couple):
    """The state in which all terraces of a couple are decided."""
    return mask_of(couple[0]) | mask_of(couple[1])


def let_moves(hill, couple, prices):
    """The moves by the deeds that are let at a state."""
    allowed = {"pour": mask_of(couple[0]), "open": mask_of(couple[1])}
    deeds = priced_deeds(hill, prices)

    def moves(decided):
        return [
            (deed, cost, decided | reach)
            for deed, reach, cost in deeds
            if reach & ~(allowed[deed[0]] | decided) == 0
        ]

    return moves


def making_ways(hill, couple, prices):
    """The cheapest ways from nothing decided to all states."""
    return cheapest_ways(0, let_moves(hill, couple, prices))


def least_making(hill, couple, prices):
    """The least price of a script that makes a couple."""
    return making_ways(hill, couple, prices)[goal_of(couple)][0]


def making_script(hill, couple, prices):
    """A cheapest script that makes a couple."""
    # The ways run from a script's last deed to its first one, so the deeds come back in its order.
    return tuple(deeds_back(making_ways(hill, couple, prices), goal_of(couple)))
