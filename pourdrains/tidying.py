"""The steps that make a script tidy, for scripts that have been checked."""

from pourdrains.masks import above_masks, lot_of, pond_masks
from pourdrains.stepping import led_along, outdoes


def tidied(hill, script):
    """The list of steps that lead a script of a book with this closing to its tidy script, and this one."""
    above = above_masks(hill)
    least = [lot_of(mask)[0] for mask in pond_masks(hill)]
    steps = []
    more = _next_steps(above, least, script)
    while more:
        script = led_along(above, script, more)
        steps.extend(more)
        more = _next_steps(above, least, script)
    return steps, script


def _next_steps(above, least, script):
    # What can be struck as it stands goes first: few deeds are left then, and few swaps are needed.
    return _strike(above, script) or _strike_in_run(above, script) or _renaming(least, script) or _sorting(script)


def _strike(above, script):
    for at, deed in enumerate(script):
        for later in range(at + 1, len(script)):
            if outdoes(above, script[later], deed):
                return [("strike", at, later)]
    return []


def _strike_in_run(above, script):
    for at, deed in enumerate(script):
        ahead = at - 1
        while ahead >= 0 and script[ahead][0] == deed[0]:
            if outdoes(above, script[ahead], deed):
                # Swaps bring the deed ahead of the one that outdoes it.
                return [("swap", k) for k in range(at - 1, ahead - 1, -1)] + [("strike", ahead, ahead + 1)]
            ahead -= 1
    return []


def _renaming(least, script):
    for at, (sort, name) in enumerate(script):
        if least[name] != name:
            return [("put", at, (sort, least[name]), at + 1), ("swap", at), ("strike", at, at + 1)]
    return []


def _sorting(script):
    for at in range(len(script) - 1):
        (sort, name), (further, other) = script[at], script[at + 1]
        if sort == further and name > other:
            return [("swap", at)]
    return []
