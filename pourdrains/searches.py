"""Cheapest ways between states, and the tables that bound them from below.

A state is a mask. moves(state) gives a list of triples: a deed, its price,
and the state to which it leads. No price is below 1.
"""

from heapq import heappop, heappush

from pourdrains.things import has_items, is_ascending, is_integer


def cheapest_ways(first, moves):
    """For each state that is led to from the first one: its least price, the state ahead, the deed between."""
    found = {first: (0, first, None)}
    queue = [(0, first)]
    while queue:
        price, state = heappop(queue)
        # A state that was found again for less is on the queue a second time.
        if price == found[state][0]:
            for deed, cost, led in moves(state):
                if led not in found or price + cost < found[led][0]:
                    found[led] = (price + cost, state, deed)
                    heappush(queue, (price + cost, led))
    return found


def deeds_back(found, state):
    """The deeds of a cheapest way to a state, the last one first."""
    deeds = []
    price, ahead, deed = found[state]
    while price > 0:
        deeds.append(deed)
        price, ahead, deed = found[ahead]
    return deeds


def read_table(thing, read_state):
    """The numbers of the states of any value that is a table; None if it is none.

    read_state gives the state of any value that tells one, None for others.
    """
    if not isinstance(thing, tuple):
        return None
    numbers = {}
    for row in thing:
        if not has_items(row, 2) or not is_integer(row[1]) or row[1] < 0:
            return None
        state = read_state(row[0])
        if state is None or state in numbers:
            return None
        numbers[state] = row[1]
    if not is_ascending(thing):
        return None
    return numbers


def bounds(numbers, first, goal, most, moves):
    """Whether the numbers of states show that each way from the first one to the goal costs above most."""
    if numbers.get(first) != 0 or numbers.get(goal, 0) <= most:
        return False
    for state, number in numbers.items():
        for _, cost, led in moves(state):
            if led not in numbers or numbers[led] > number + cost:
                return False
    return True
