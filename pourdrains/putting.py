"""Fewest puts with which beginnings fit notes, on one ground, for values that have been checked.

The layer at a position tells for each mask of a water with which the entries from there on can begin: the
fewest puts up to there, the water ahead, and the deed that was put in between, None for the entry ahead.
"""

from heapq import heappop, heappush

from pourdrains.deeds import reaches, wet_behind
from pourdrains.masks import lower_masks
from pourdrains.noting import wet_past


def layers_of(ground, notes):
    """The layers at all positions, from 0 to the number of entries."""
    reached = reaches(ground)
    # Any water can be the first one, so nothing has to be put in ahead of the first entry.
    layers = [{wet: (0, wet, None) for wet in lower_masks(ground)}]
    for entry in notes:
        layers.append(_with_puts(reached, _past_entry(reached, entry, layers[-1])))
    return layers


def _past_entry(reached, entry, layer):
    found = {}
    for ahead, (number, _, _) in layer.items():
        wet = wet_past(ahead, entry, reached)
        if wet is not None and (wet not in found or number < found[wet][0]):
            found[wet] = (number, ahead, None)
    return found


def _with_puts(reached, layer):
    found = dict(layer)
    queue = sorted((way[0], wet) for wet, way in layer.items())
    while queue:
        number, wet = heappop(queue)
        # A water that was found again for less is on the queue a second time.
        if number == found[wet][0]:
            for deed, reach in reached.items():
                led = wet_behind(wet, deed, reach)
                if led not in found or number + 1 < found[led][0]:
                    found[led] = (number + 1, wet, deed)
                    heappush(queue, (number + 1, led))
    return found


def puts_to(layers, wet):
    """The mask of the first water, and the puts, of a way that comes to a water with the fewest puts."""
    puts = []
    position = len(layers) - 1
    while position > 0:
        _, ahead, deed = layers[position][wet]
        if deed is None:
            position -= 1
        else:
            puts.append((position, deed))
        wet = ahead
    return wet, tuple(puts[::-1])
