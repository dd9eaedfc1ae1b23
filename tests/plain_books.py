"""The words of parts 4 and 5, followed as plainly as can be, to hold the package against."""

from functools import cache
from itertools import combinations, permutations, product

from tests import plain


@cache
def kinds_of(book):
    hill = plain.closing(book)
    return tuple((low, high) for low in plain.waters(hill) for high in plain.uppers(hill))


@cache
def named_kinds(book):
    """The kinds of [4.6]: between two names, under a name, over a name."""
    hill = plain.closing(book)
    names = range(book[0])
    low = {y: tuple(a for a in names if plain.leq(hill, a, y)) for y in names}
    high = {x: tuple(b for b in names if plain.leq(hill, x, b)) for x in names}
    between = [(low[y], high[x]) for y in names for x in names]
    return between + [((), high[x]) for x in names] + [(low[y], ()) for y in names]


def reaches(deed, kind):
    below, above = kind
    return deed[1] in (above if deed[0] == "pour" else below)


def standing(script, kind):
    reached = [deed[0] for deed in script if reaches(deed, kind)]
    return {"pour": "wet", "open": "dry"}[reached[-1]] if reached else "kept"


def wetter(one, other):
    order = ["dry", "kept", "wet"]
    return order.index(one) > order.index(other)


def standings(book, script):
    """What tells whether scripts are alike: the standings at all kinds."""
    return tuple(standing(script, kind) for kind in kinds_of(book))


# Steps and tidy scripts


def is_tuple(thing, many):
    return type(thing) is tuple and len(thing) == many


def is_position(thing, many):
    return plain.is_int(thing) and 0 <= thing < many


def can_strike(hill, script, i, j):
    if not (is_position(i, len(script)) and is_position(j, len(script)) and i < j):
        return False
    (sort, first), (later, second) = script[i], script[j]
    if sort == "pour":
        return later == "pour" and plain.leq(hill, first, second)
    return later == "open" and plain.leq(hill, second, first)


def stepped(book, script, step):
    """The script to which any value leads as a step; None if it does not."""
    hill = plain.closing(book)
    if type(step) is not tuple or not step or type(step[0]) is not str:
        return None
    if step[0] == "swap" and len(step) == 2:
        i = step[1]
        if is_position(i, len(script) - 1) and script[i][0] == script[i + 1][0]:
            return script[:i] + (script[i + 1], script[i]) + script[i + 2 :]
    if step[0] == "strike" and len(step) == 3 and can_strike(hill, script, step[1], step[2]):
        return script[: step[1]] + script[step[1] + 1 :]
    if step[0] == "put" and len(step) == 4:
        _, i, deed, j = step
        if is_position(i, len(script) + 1) and plain.is_deed(book[0], deed):
            longer = script[:i] + (deed,) + script[i:]
            if can_strike(hill, longer, i, j):
                return longer
    return None


def led_along(book, script, steps):
    for step in steps:
        script = stepped(book, script, step)
        if script is None:
            return None
    return script


def steps_at(book, script):
    """All steps that could be done on a script, and some that could not."""
    around = range(-1, len(script) + 2)
    found = [("swap", i) for i in around]
    found += [("strike", i, j) for i in around for j in around]
    return found + [("put", i, deed, j) for i in around for j in around for deed in plain.deeds(book)]


def swapped_rows(script):
    """All scripts to which rows of swaps lead."""
    found = {script}
    left = [script]
    while left:
        row = left.pop()
        for i in range(len(row) - 1):
            if row[i][0] == row[i + 1][0]:
                other = row[:i] + (row[i + 1], row[i]) + row[i + 2 :]
                if other not in found:
                    found.add(other)
                    left.append(other)
    return found


def is_tidy(book, script):
    hill = plain.closing(book)
    if any(plain.pond(hill, name)[0] != name for _, name in script):
        return False
    for (sort, name), (later, other) in zip(script, script[1:]):
        if sort == later and name >= other:
            return False
    places = range(len(script))
    return not any(can_strike(hill, row, i, j) for row in swapped_rows(script) for i in places for j in places)


def alike_holds(book, one, other, thing):
    """Whether any value is a certificate of [4.5]."""
    if is_tuple(thing, 2) and type(thing[0]) is str and thing[0] == "steps":
        return type(thing[1]) is tuple and led_along(book, one, thing[1]) == other
    if is_tuple(thing, 3) and type(thing[0]) is str and thing[0] == "parts":
        return plain.is_kind(book, thing[1:]) and standing(one, thing[1:]) != standing(other, thing[1:])
    return False


def never_wetter_holds(book, one, other, thing):
    """Whether any value is a certificate of [4.8]."""
    if is_tuple(thing, 1) and type(thing[0]) is str and thing[0] == "never":
        return not any(wetter(standing(one, kind), standing(other, kind)) for kind in kinds_of(book))
    if is_tuple(thing, 3) and type(thing[0]) is str and thing[0] == "wetter":
        return plain.is_kind(book, thing[1:]) and wetter(standing(one, thing[1:]), standing(other, thing[1:]))
    return False


# Plans


def is_plan(many, thing):
    if not is_tuple(thing, 2) or not plain.is_script(many, thing[0]) or not plain.is_told(len(thing[0]), thing[1]):
        return False
    left = list(range(len(thing[0])))
    while left:
        free = [at for at in left if not any(j == at and i in left for i, j in thing[1])]
        if not free:
            return False
        left.remove(free[0])
    return True


def are_hands(many, thing):
    return type(thing) is tuple and 1 <= len(thing) <= 4 and all(plain.is_script(many, one) for one in thing)


def is_weaving(plan, thing):
    if type(thing) is not tuple or not all(plain.is_int(at) for at in thing):
        return False
    if sorted(thing) != list(range(len(plan[0]))):
        return False
    return all(thing.index(i) < thing.index(j) for i, j in plan[1])


def weavings(plan):
    return [row for row in permutations(range(len(plan[0]))) if is_weaving(plan, row)]


def woven(plan, weaving):
    return tuple(plan[0][at] for at in weaving)


def can_be_last(plan, kind):
    """By the weavings: the positions of the last deeds that reach a kind."""
    found = set()
    for weaving in weavings(plan):
        reached = [at for at in weaving if reaches(plan[0][at], kind)]
        found.update(reached[-1:])
    return tuple(sorted(found))


def is_certain(book, plan):
    every = {woven(plan, weaving) for weaving in weavings(plan)}
    return all(len({standing(script, kind) for script in every}) == 1 for kind in kinds_of(book))


def certain_holds(book, plan, thing):
    """Whether any value is a certificate of [5.3]."""
    if is_tuple(thing, 1) and type(thing[0]) is str and thing[0] == "certain":
        return is_certain(book, plan)
    if not is_tuple(thing, 5) or type(thing[0]) is not str or thing[0] != "parts":
        return False
    if not is_weaving(plan, thing[1]) or not is_weaving(plan, thing[2]) or not plain.is_kind(book, thing[3:]):
        return False
    return standing(woven(plan, thing[1]), thing[3:]) != standing(woven(plan, thing[2]), thing[3:])


def are_waits(book, plan, thing):
    if not plain.is_told(len(plan[0]), thing) or set(thing) & set(plan[1]):
        return False
    longer = (plan[0], tuple(sorted(plan[1] + thing)))
    return is_plan(book[0], longer) and is_certain(book, longer)


def fewest_waits(book, plan):
    """How many waits are needed."""
    every = [pair for pair in plain.pairs_of(len(plan[0])) if pair not in plan[1]]
    for many in range(len(every) + 1):
        if any(are_waits(book, plan, waits) for waits in combinations(every, many)):
            return many


def plans_of(book, many, stride=1):
    """Plans of so many deeds: all of them, or each one behind so many others."""
    found = []
    for deeds in product(plain.deeds(book), repeat=many):
        for size in range(many * (many - 1) // 2 + 1):
            found += [(deeds, pairs) for pairs in combinations(plain.pairs_of(many), size)]
    return [plan for plan in found[::stride] if is_plan(book[0], plan)]
