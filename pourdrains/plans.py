"""Plans: deeds of which some are done ahead of others, and all the scripts into which they can be woven."""

from pourdrains.errors import BadWeaving
from pourdrains.hills import need_book
from pourdrains.orders import ahead_masks, free_positions, is_plan_of, is_weaving_of, need_hands, need_plan
from pourdrains.orders import woven_by


def is_plan(book, thing):
    """Whether any value is a plan."""
    need_book(book)
    return is_plan_of(book[0], thing)


def plan_of_hands(book, hands):
    """The plan in which each hand does its own script in its order."""
    need_book(book)
    need_hands(book[0], hands)
    deeds, pairs = [], []
    for script in hands:
        first = len(deeds)
        deeds.extend(script)
        pairs.extend([(at, at + 1) for at in range(first, len(deeds) - 1)])
    return tuple(deeds), tuple(pairs)


def is_weaving(book, plan, thing):
    """Whether any value is a weaving of a plan."""
    need_book(book)
    need_plan(book[0], plan)
    return is_weaving_of(plan, thing)


def weavings(book, plan):
    """The ascending tuple of all weavings."""
    need_book(book)
    need_plan(book[0], plan)
    many = len(plan[0])
    ahead = ahead_masks(many, plan[1])
    found = [((), 0)]
    for _ in range(many):
        # Rows that ascend still ascend when each one goes on in ascending order.
        found = [(row + (at,), done | 1 << at) for row, done in found for at in free_positions(ahead, done)]
    return tuple(row for row, _ in found)


def many_weavings(book, plan):
    """How many weavings there are."""
    need_book(book)
    need_plan(book[0], plan)
    many = len(plan[0])
    ahead = ahead_masks(many, plan[1])
    ways = {0: 1}
    for _ in range(many):
        longer = {}
        for done, number in ways.items():
            for at in free_positions(ahead, done):
                more = done | 1 << at
                longer[more] = longer.get(more, 0) + number
        ways = longer
    return sum(ways.values())


def woven(book, plan, weaving):
    """The script of a weaving."""
    need_book(book)
    need_plan(book[0], plan)
    if not is_weaving_of(plan, weaving):
        raise BadWeaving(weaving)
    return woven_by(plan, weaving)
