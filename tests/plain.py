"""The words of the document, followed as plainly as can be, to hold the package against."""

from functools import cache
from itertools import combinations, product


def is_int(thing):
    return type(thing) is int


def is_told(many, thing):
    """Whether any value is a book of so many terraces' pairs."""
    if type(thing) is not tuple:
        return False
    for pair in thing:
        if type(pair) is not tuple or len(pair) != 2:
            return False
        if not (is_int(pair[0]) and is_int(pair[1])):
            return False
        if not (0 <= pair[0] < many and 0 <= pair[1] < many) or pair[0] == pair[1]:
            return False
    return list(thing) == sorted(set(thing))


def is_book(thing):
    if type(thing) is not tuple or len(thing) != 2:
        return False
    return is_int(thing[0]) and 1 <= thing[0] <= 10 and is_told(thing[0], thing[1])


def is_hill(thing):
    if not is_book(thing):
        return False
    pairs = set(thing[1])
    return all((a, d) in pairs for a, b in pairs for c, d in pairs if b == c and a != d)


def pairs_of(many):
    return [(a, b) for a in range(many) for b in range(many) if a != b]


def books(many):
    """All books of so many names."""
    found = []
    for size in range(len(pairs_of(many)) + 1):
        for chosen in combinations(pairs_of(many), size):
            found.append((many, chosen))
    return found


def hills(many):
    """All hills of so many terraces."""
    return [book for book in books(many) if is_hill(book)]


def small_hills():
    return [hill for many in (1, 2, 3) for hill in hills(many)]


def closing(book):
    pairs = set(book[1])
    while True:
        more = {(a, d) for a, b in pairs for c, d in pairs if b == c and a != d} - pairs
        if not more:
            return (book[0], tuple(sorted(pairs)))
        pairs |= more


def leq(hill, a, b):
    return a == b or (a, b) in hill[1]


def strictly(hill, a, b):
    return (a, b) in hill[1] and (b, a) not in hill[1]


def lots(many):
    found = []
    for size in range(many + 1):
        found += combinations(range(many), size)
    return sorted(found)


def is_lower(hill, lot):
    return all(a in lot for b in lot for a in range(hill[0]) if leq(hill, a, b))


def is_upper(hill, lot):
    return all(b in lot for a in lot for b in range(hill[0]) if leq(hill, a, b))


def waters(hill):
    return [lot for lot in lots(hill[0]) if is_lower(hill, lot)]


def uppers(hill):
    return [lot for lot in lots(hill[0]) if is_upper(hill, lot)]


def pond(hill, terrace):
    return tuple(at for at in range(hill[0]) if leq(hill, at, terrace) and leq(hill, terrace, at))


def highest(hill, lot):
    top = [a for a in lot if not any(strictly(hill, a, b) for b in lot)]
    return tuple(a for a in top if a == min(b for b in top if b in pond(hill, a)))


def lowest(hill, lot):
    end = [a for a in lot if not any(strictly(hill, b, a) for b in lot)]
    return tuple(a for a in end if a == min(b for b in end if b in pond(hill, a)))


def just_above(hill, terrace):
    return tuple(
        b
        for b in range(hill[0])
        if strictly(hill, terrace, b)
        and not any(strictly(hill, terrace, c) and strictly(hill, c, b) for c in range(hill[0]))
    )


def is_tree(hill):
    return all(len(pond(hill, at)) == 1 and len(just_above(hill, at)) <= 1 for at in range(hill[0]))


def deeds(hill):
    return [(sort, at) for sort in ("pour", "open") for at in range(hill[0])]


def is_deed(many, thing):
    if type(thing) is not tuple or len(thing) != 2 or type(thing[0]) is not str:
        return False
    return thing[0] in ("pour", "open") and is_int(thing[1]) and 0 <= thing[1] < many


def is_script(many, thing):
    return type(thing) is tuple and all(is_deed(many, deed) for deed in thing)


@cache
def reach(hill, deed):
    sort, x = deed
    if sort == "pour":
        return tuple(at for at in range(hill[0]) if leq(hill, at, x))
    return tuple(at for at in range(hill[0]) if leq(hill, x, at))


def run(hill, water, script):
    wet = set(water)
    for deed in script:
        if deed[0] == "pour":
            wet |= set(reach(hill, deed))
        else:
            wet -= set(reach(hill, deed))
    return tuple(sorted(wet))


def last_reaching(hill, script, terrace):
    return max([at for at, deed in enumerate(script) if terrace in reach(hill, deed)], default=None)


def couple_of(hill, script):
    wet, dry = [], []
    for at in range(hill[0]):
        last = last_reaching(hill, script, at)
        if last is not None:
            (wet if script[last][0] == "pour" else dry).append(at)
    return (tuple(wet), tuple(dry))


def couples(hill):
    return sorted((w, d) for w in waters(hill) for d in uppers(hill) if not set(w) & set(d))


def done_to(couple, water):
    return tuple(sorted(set(couple[0]) | (set(water) - set(couple[1]))))


def then(one, other):
    (w, d), (v, e) = [tuple(map(set, couple)) for couple in (one, other)]
    return (tuple(sorted((w - e) | v)), tuple(sorted((d - v) | e)))


def price_of_deed(prices, deed):
    return prices[0 if deed[0] == "pour" else 1][deed[1]]


def price_of(prices, script):
    return sum(price_of_deed(prices, deed) for deed in script)


def least(first, moves):
    """The least price of each state that can be come to: prices are lowered until none can be."""
    found = {first: 0}
    changed = [first]
    while changed:
        state = changed.pop(0)
        for price, led in moves(state):
            if found[state] + price < found.get(led, 10 ** 9):
                found[led] = found[state] + price
                changed.append(led)
    return found


def least_of_couples(hill, prices):
    """The least price of each couple, by scripts that are made longer at their end."""
    single = [(price_of_deed(prices, deed), couple_of(hill, (deed,))) for deed in deeds(hill)]
    return least(((), ()), lambda couple: [(price, then(couple, one)) for price, one in single])


def least_of_waters(hill, water, prices):
    every = deeds(hill)
    return least(water, lambda at: [(price_of_deed(prices, deed), run(hill, at, (deed,))) for deed in every])


def even(hill):
    return ((1,) * hill[0], (1,) * hill[0])


def is_lot(many, thing):
    if type(thing) is not tuple or not all(is_int(at) and 0 <= at < many for at in thing):
        return False
    return list(thing) == sorted(set(thing))


def is_couple(hill, thing):
    if type(thing) is not tuple or len(thing) != 2 or not all(is_lot(hill[0], lot) for lot in thing):
        return False
    return is_lower(hill, thing[0]) and is_upper(hill, thing[1]) and not set(thing[0]) & set(thing[1])


def is_kind(book, thing):
    if type(thing) is not tuple or len(thing) != 2 or not all(is_lot(book[0], lot) for lot in thing):
        return False
    return is_lower(closing(book), thing[0]) and is_upper(closing(book), thing[1])


def are_prices(many, thing):
    if type(thing) is not tuple or len(thing) != 2:
        return False
    if not all(type(part) is tuple and len(part) == many for part in thing):
        return False
    return all(is_int(price) and 1 <= price <= 1000 for part in thing for price in part)


def is_rows(many, thing):
    """Whether any value is an ascending tuple of pairs (lot, number) with unlike lots."""
    if type(thing) is not tuple:
        return False
    for row in thing:
        if type(row) is not tuple or len(row) != 2 or not is_lot(many, row[0]):
            return False
        if not is_int(row[1]) or row[1] < 0:
            return False
    lots_told = [row[0] for row in thing]
    return list(thing) == sorted(thing) and len(set(lots_told)) == len(lots_told)


def is_sorted_pair(thing, sort):
    return type(thing) is tuple and len(thing) == 2 and type(thing[0]) is str and thing[0] == sort


def made_holds(hill, couple, prices, most, thing):
    """Whether any value is a certificate of [3.4]."""
    if is_sorted_pair(thing, "script"):
        if not is_script(hill[0], thing[1]):
            return False
        return couple_of(hill, thing[1]) == couple and price_of(prices, thing[1]) <= most
    if not is_sorted_pair(thing, "table") or not is_rows(hill[0], thing[1]):
        return False
    numbers = dict(thing[1])
    wet, dry = map(set, couple)
    if any(not set(lot) <= wet | dry for lot in numbers) or numbers.get(()) != 0:
        return False
    for lot, number in numbers.items():
        for deed in deeds(hill):
            reached = set(reach(hill, deed))
            if reached <= (wet if deed[0] == "pour" else dry) | set(lot):
                led = tuple(sorted(reached | set(lot)))
                if led not in numbers or numbers[led] > number + price_of_deed(prices, deed):
                    return False
    return numbers.get(tuple(sorted(wet | dry)), -1) > most


def led_holds(hill, water, other, prices, most, thing):
    """Whether any value is a certificate of [3.5]."""
    if is_sorted_pair(thing, "script"):
        if not is_script(hill[0], thing[1]):
            return False
        return run(hill, water, thing[1]) == other and price_of(prices, thing[1]) <= most
    if not is_sorted_pair(thing, "table") or not is_rows(hill[0], thing[1]):
        return False
    numbers = dict(thing[1])
    if any(not is_lower(hill, lot) for lot in numbers) or numbers.get(water) != 0:
        return False
    for lot, number in numbers.items():
        for deed in deeds(hill):
            led = run(hill, lot, (deed,))
            if led not in numbers or numbers[led] > number + price_of_deed(prices, deed):
                return False
    return numbers.get(other, -1) > most


def scripts_of(hill, most):
    """All scripts of at most so many deeds."""
    return [script for many in range(most + 1) for script in product(deeds(hill), repeat=many)]
