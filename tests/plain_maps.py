"""The words of parts 11 and 12, followed as plainly as can be, to hold the package against."""

from itertools import combinations, permutations, product

from tests import plain
from tests.plain_books import is_position, is_tuple


def is_map(one, other, thing):
    if not is_tuple(thing, one[0]) or not all(is_position(place, other[0]) for place in thing):
        return False
    return all(plain.leq(other, thing[a], thing[b]) for a, b in one[1])


def maps(one, other):
    return [row for row in product(range(other[0]), repeat=one[0]) if is_map(one, other, row)]


def carried_water(places, water):
    return tuple(at for at, place in enumerate(places) if place in water)


def pushed_water(other, places, water):
    return tuple(at for at in range(other[0]) if any(plain.leq(other, at, places[wet]) for wet in water))


def carried_deed(one, other, places, deed):
    carried = carried_water(places, plain.reach(other, deed))
    ends = plain.highest(one, carried) if deed[0] == "pour" else plain.lowest(one, carried)
    return tuple((deed[0], at) for at in ends)


def carried_script(one, other, places, script):
    return tuple(led for deed in script for led in carried_deed(one, other, places, deed))


def is_word(thing, word, many):
    return is_tuple(thing, many) and type(thing[0]) is str and thing[0] == word


def single_holds(one, other, places, thing):
    """Whether any value is a certificate of [11.4]."""
    if is_word(thing, "single", 3):
        for sort, told in [("pour", thing[1]), ("open", thing[2])]:
            if not is_tuple(told, other[0]) or not all(plain.is_int(at) for at in told):
                return False
            for x, at in enumerate(told):
                if carried_deed(one, other, places, (sort, x)) != (() if at == -1 else ((sort, at),)):
                    return False
        return True
    if not is_word(thing, "wide", 4) or not plain.is_deed(other[0], thing[1]):
        return False
    if not is_position(thing[2], one[0]) or not is_position(thing[3], one[0]) or thing[2] >= thing[3]:
        return False
    led = [at for _, at in carried_deed(one, other, places, thing[1])]
    return thing[2] in led and thing[3] in led


# Kinds on a hill, and hills that are alike


def are_names(many, thing):
    if type(thing) is not tuple or not thing or not all(is_position(name, many) for name in thing):
        return False
    return len(set(thing)) == len(thing)


def kind_at(hill, names, terrace):
    below = tuple(at for at, name in enumerate(names) if plain.leq(hill, name, terrace))
    return (below, tuple(at for at, name in enumerate(names) if plain.leq(hill, terrace, name)))


def kinds_on(hill, names):
    return tuple(sorted({kind_at(hill, names, at) for at in range(hill[0])}))


def least_part(hill, names):
    kinds = [kind_at(hill, names, at) for at in range(hill[0])]
    named = [kinds[name] for name in names]
    least = {kinds.index(kind) for kind in kinds if kind not in named}
    return tuple(sorted(set(names) | least))


def hill_within(hill, part):
    """The hill that a lot of terraces makes, called by their positions in it."""
    pairs = [(part.index(a), part.index(b)) for a, b in hill[1] if a in part and b in part]
    return (len(part), tuple(sorted(pairs)))


def counts(hill):
    found = []
    for at in range(hill[0]):
        below = [a for a in range(hill[0]) if plain.leq(hill, a, at)]
        found.append((len(below), len([b for b in range(hill[0]) if plain.leq(hill, at, b)])))
    return tuple(sorted(found))


def is_leading(one, other, names):
    """Whether a tuple that has each terrace once is a map, and so is the one that leads back."""
    back = tuple(names.index(at) for at in range(one[0]))
    return is_map(one, other, names) and is_map(other, one, back)


def leading(one, other):
    return [names for names in permutations(range(one[0])) if is_leading(one, other, names)]


def hills_hold(one, other, thing):
    """Whether any value is a certificate of [11.6]."""
    if is_word(thing, "names", 2):
        return is_tuple(thing[1], one[0]) and are_names(one[0], thing[1]) and is_leading(one, other, thing[1])
    if is_word(thing, "counts", 3):
        return repr(thing[1:]) == repr((counts(one), counts(other))) and counts(one) != counts(other)
    return is_word(thing, "none", 1) and counts(one) == counts(other) and not leading(one, other)


# Blame


def are_wishes(many, thing):
    if type(thing) is not tuple or not all(is_tuple(wish, 2) and is_position(wish[0], many) for wish in thing):
        return False
    if not all(type(told) is str and told in ("wet", "dry", "kept") for _, told in thing):
        return False
    terraces = [terrace for terrace, _ in thing]
    return terraces == sorted(set(terraces))


def without(script, strikes):
    return tuple(deed for at, deed in enumerate(script) if at not in strikes)


def meets(hill, script, wishes):
    wet, dry = plain.couple_of(hill, script)
    for terrace, told in wishes:
        if told != ("wet" if terrace in wet else "dry" if terrace in dry else "kept"):
            return False
    return True


def are_strikes(hill, script, wishes, thing):
    if type(thing) is not tuple or not all(is_position(at, len(script)) for at in thing):
        return False
    return list(thing) == sorted(set(thing)) and meets(hill, without(script, thing), wishes)


def all_strikes(hill, script, wishes):
    """All strikes, those of few positions first."""
    found = []
    for many in range(len(script) + 1):
        for strikes in combinations(range(len(script)), many):
            if meets(hill, without(script, strikes), wishes):
                found.append(strikes)
    return found


def needless(hill, script):
    return tuple(
        at for at in range(len(script)) if plain.couple_of(hill, without(script, (at,))) == plain.couple_of(hill, script)
    )


def exchanged(script, at):
    return script[:at] + (script[at + 1], script[at]) + script[at + 2 :]


def loose_places(hill, script):
    couple = plain.couple_of(hill, script)
    return tuple(at for at in range(len(script) - 1) if plain.couple_of(hill, exchanged(script, at)) == couple)
