"""Drawn deeds: what they leave in the long run and behind some ticks, and when the beginning is forgotten."""

from pourdrains.checks import need_count, need_terrace, need_water
from pourdrains.deeds import wet_behind
from pourdrains.drawing import are_weights_of, read_weights, sum_of_weights, weight_within
from pourdrains.errors import Unreached
from pourdrains.hills import need_hill
from pourdrains.masks import lot_of, mask_of
from pourdrains.shares import part_of, power_of, reduced, sum_of


def is_weights(hill, thing):
    """Whether any value is weights."""
    need_hill(hill)
    return are_weights_of(hill[0], thing)


def long_share(hill, weights, terrace):
    """The long-run share of a terrace."""
    drawn = read_weights(hill, weights)
    need_terrace(hill[0], terrace)
    reaching = [(deed, reach, weight) for deed, reach, weight in drawn if reach >> terrace & 1]
    if not reaching:
        raise Unreached(terrace)
    pours = [(deed, reach, weight) for deed, reach, weight in reaching if deed[0] == "pour"]
    return reduced(sum_of_weights(pours), sum_of_weights(reaching))


def _need_all_reached(hill, drawn):
    for terrace in range(hill[0]):
        if not any(reach >> terrace & 1 for _, reach, _ in drawn):
            raise Unreached(terrace)


def long_chances(hill, weights):
    """The ascending tuple of the waters that can be in the long run, each with its long-run chance."""
    drawn = read_weights(hill, weights)
    _need_all_reached(hill, drawn)
    full = (1 << hill[0]) - 1
    # For each mask of terraces that are decided: the wet ones that can be among them, with their chances.
    # A deed that decides more leads to a greater mask.
    found = [{} for _ in range(full + 1)]
    found[0][0] = (1, 1)
    for decided in range(full):
        deciding = [(deed, reach, weight) for deed, reach, weight in drawn if reach & ~decided]
        bottom = sum_of_weights(deciding)
        chances = list(found[decided].items())
        for wet, chance in chances:
            for deed, reach, weight in deciding:
                led = wet | reach & ~decided if deed[0] == "pour" else wet
                known = found[decided | reach]
                known[led] = sum_of(known.get(led, (0, 1)), part_of(chance, weight, bottom))
    return tuple(sorted((lot_of(wet), chance) for wet, chance in found[full].items()))


def mean_wait(hill, weights):
    """The mean number of ticks until the beginning is forgotten."""
    drawn = read_weights(hill, weights)
    _need_all_reached(hill, drawn)
    full = (1 << hill[0]) - 1
    ticks = sum_of_weights(drawn)
    # For each mask of terraces that were reached: the mean number of ticks until all are.
    waits = [(0, 1) for _ in range(full + 1)]
    for mask in range(full - 1, -1, -1):
        further = [(deed, reach, weight) for deed, reach, weight in drawn if reach & ~mask]
        bottom = sum_of_weights(further)
        wait = reduced(ticks, bottom)
        for _, reach, weight in further:
            wait = sum_of(wait, part_of(waits[mask | reach], weight, bottom))
        waits[mask] = wait
    return waits[0]


def after_ticks(hill, weights, water, t):
    """The ascending tuple of the waters that can be behind t ticks from a first one, each with its chance."""
    drawn = read_weights(hill, weights)
    need_water(hill, water)
    need_count(t)
    ways = {mask_of(water): 1}
    for _ in range(t):
        led = {}
        for wet, number in ways.items():
            for deed, reach, weight in drawn:
                left = wet_behind(wet, deed, reach)
                led[left] = led.get(left, 0) + number * weight
        ways = led
    bottom = power_of(sum_of_weights(drawn), t)
    return tuple(sorted((lot_of(wet), reduced(number, bottom)) for wet, number in ways.items()))


def forgotten_by(hill, weights, t):
    """The chance that the beginning is forgotten behind t ticks."""
    drawn = read_weights(hill, weights)
    need_count(t)
    top = 0
    for lot in range(1 << hill[0]):
        sign = -1 if (hill[0] - len(lot_of(lot))) & 1 else 1
        top += sign * power_of(weight_within(drawn, lot), t)
    return reduced(top, power_of(sum_of_weights(drawn), t))
