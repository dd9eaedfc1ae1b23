"""Steps from script to script, by the masks of what is at or above each name in the book's closing."""

from pourdrains.checks import is_deed_of
from pourdrains.things import has_items, is_within


def outdoes(above, later, deed):
    """Whether a deed goes out that has the later one behind it."""
    if later[0] != deed[0]:
        return False
    low, high = (deed[1], later[1]) if deed[0] == "pour" else (later[1], deed[1])
    return above[low] >> high & 1 == 1


def led_by(above, script, step):
    """The script to which any value leads as a step; None if it is no step that can be done."""
    if has_items(step, 2) and step[0] == "swap":
        return _swapped(script, step[1])
    if has_items(step, 3) and step[0] == "strike":
        return _struck(above, script, step[1], step[2])
    if has_items(step, 4) and step[0] == "put":
        return _put_in(above, script, step)
    return None


def _swapped(script, at):
    if not is_within(at, 0, len(script) - 2):
        return None
    first, second = script[at], script[at + 1]
    if first[0] != second[0]:
        return None
    return script[:at] + (second, first) + script[at + 2 :]


def _struck(above, script, at, later):
    if not is_within(later, 0, len(script) - 1) or not is_within(at, 0, later - 1):
        return None
    if not outdoes(above, script[later], script[at]):
        return None
    return script[:at] + script[at + 1 :]


def _put_in(above, script, step):
    _, at, deed, later = step
    if not is_within(at, 0, len(script)) or not is_deed_of(len(above), deed):
        return None
    longer = script[:at] + (deed,) + script[at:]
    if _struck(above, longer, at, later) is None:
        return None
    return longer


def led_along(above, script, steps):
    """The script to which a list or tuple of any values leads as steps; None if one cannot be done."""
    for step in steps:
        script = led_by(above, script, step)
        if script is None:
            return None
    return script


def steps_back(above, script, steps):
    """The steps that lead back to a script from where a list of steps leads it."""
    back = []
    for step in steps:
        if step[0] == "strike":
            back.append(("put", step[1], script[step[1]], step[2]))
        elif step[0] == "put":
            back.append(("strike", step[1], step[3]))
        else:
            back.append(step)
        script = led_by(above, script, step)
    return back[::-1]
