"""Least prices: of scripts that make a couple, and of scripts that lead from water to water."""

from pourdrains.checks import is_lot_of, is_lower_of, is_script_of, need_count, need_couple, need_lot
from pourdrains.checks import need_prices, need_water
from pourdrains.deeds import couple_masks, price_of, priced_deeds, wet_behind
from pourdrains.hills import need_hill
from pourdrains.making import goal_of, least_making, let_moves, making_script, making_ways
from pourdrains.masks import lot_of, mask_of
from pourdrains.searches import bounds, cheapest_ways, deeds_back, read_table
from pourdrains.things import has_items


def _need_making(hill, couple, prices):
    need_hill(hill)
    need_couple(hill, couple)
    need_prices(hill[0], prices)


def cheapest(hill, couple, prices):
    """The least price of a script that makes a couple."""
    _need_making(hill, couple, prices)
    return least_making(hill, couple, prices)


def cheapest_script(hill, couple, prices):
    """A script that makes a couple for the least price."""
    _need_making(hill, couple, prices)
    return making_script(hill, couple, prices)


def judge_cheapest(hill, couple, prices, most):
    """A certificate that a couple can be made for a price of at most most, or that it can not."""
    _need_making(hill, couple, prices)
    need_count(most)
    ways = making_ways(hill, couple, prices)
    goal = goal_of(couple)
    if ways[goal][0] <= most:
        return "script", tuple(deeds_back(ways, goal))
    return "table", _table_of(ways)


def cheapest_holds(hill, couple, prices, most, thing):
    """Whether any value is a certificate for a couple, prices and most."""
    _need_making(hill, couple, prices)
    need_count(most)
    if not has_items(thing, 2):
        return False
    if thing[0] == "script":
        made = mask_of(couple[0]), mask_of(couple[1])
        return _is_script_within(hill, prices, most, thing[1]) and couple_masks(hill, thing[1]) == made
    goal = goal_of(couple)
    moves = let_moves(hill, couple, prices)

    def read_state(lot):
        if is_lot_of(hill[0], lot) and mask_of(lot) & ~goal == 0:
            return mask_of(lot)
        return None

    return thing[0] == "table" and _is_bound(read_table(thing[1], read_state), 0, goal, most, moves)


def _table_of(ways):
    return tuple(sorted((lot_of(state), way[0]) for state, way in ways.items()))


def _is_script_within(hill, prices, most, thing):
    return is_script_of(hill[0], thing) and price_of(prices, thing) <= most


def _is_bound(numbers, first, goal, most, moves):
    return numbers is not None and bounds(numbers, first, goal, most, moves)


def _need_leading(hill, water, other, prices):
    need_hill(hill)
    need_water(hill, water)
    need_water(hill, other)
    need_prices(hill[0], prices)


def _water_moves(hill, prices):
    deeds = priced_deeds(hill, prices)

    def moves(wet):
        return [(deed, cost, wet_behind(wet, deed, reach)) for deed, reach, cost in deeds]

    return moves


def _leading_ways(hill, water, prices):
    return cheapest_ways(mask_of(water), _water_moves(hill, prices))


def led_price(hill, water, other, prices):
    """The least price of a script that leads a water to another one."""
    _need_leading(hill, water, other, prices)
    return _leading_ways(hill, water, prices)[mask_of(other)][0]


def judge_led(hill, water, other, prices, most):
    """A certificate that a water can be led to another one for a price of at most most, or that it can not."""
    _need_leading(hill, water, other, prices)
    need_count(most)
    ways = _leading_ways(hill, water, prices)
    goal = mask_of(other)
    if ways[goal][0] <= most:
        return "script", tuple(deeds_back(ways, goal)[::-1])
    return "table", _table_of(ways)


def led_holds(hill, water, other, prices, most, thing):
    """Whether any value is a certificate for two waters, prices and most."""
    _need_leading(hill, water, other, prices)
    need_count(most)
    if not has_items(thing, 2):
        return False
    first, goal = mask_of(water), mask_of(other)
    if thing[0] == "script":
        return _is_script_within(hill, prices, most, thing[1]) and _leads(hill, first, goal, thing[1])
    moves = _water_moves(hill, prices)

    def read_state(lot):
        if is_lower_of(hill, lot):
            return mask_of(lot)
        return None

    return thing[0] == "table" and _is_bound(read_table(thing[1], read_state), first, goal, most, moves)


def _leads(hill, first, goal, script):
    wet, dry = couple_masks(hill, script)
    return wet | first & ~dry == goal


def wish_price(hill, water, wet, dry, prices):
    """The least price of a script that leads a water to one that meets a wish; None if no water does."""
    need_hill(hill)
    need_water(hill, water)
    need_lot(hill[0], wet)
    need_lot(hill[0], dry)
    need_prices(hill[0], prices)
    ways = _leading_ways(hill, water, prices)
    asked, barred = mask_of(wet), mask_of(dry)
    return min([way[0] for state, way in ways.items() if _meets(state, asked, barred)], default=None)


def _meets(state, asked, barred):
    return asked & ~state == 0 and barred & state == 0
