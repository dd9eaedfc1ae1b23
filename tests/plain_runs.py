"""The words of parts 6 and 7, followed as plainly as can be, to hold the package against."""

from functools import cache

from tests import plain, plain_books
from tests.plain_books import is_position, is_tuple


@cache
def hills(many):
    return tuple(plain.hills(many))


def fitting_hills(book, many):
    """All hills of so many terraces that fit a book."""
    return sorted(hill for hill in hills(many) if set(book[1]) <= set(hill[1]))


@cache
def grounds(book):
    return tuple(fitting_hills(book, book[0]))


def is_ground(book, thing):
    return plain.is_hill(thing) and thing[0] == book[0] and set(book[1]) <= set(thing[1])


def is_water(hill, thing):
    return plain.is_lot(hill[0], thing) and plain.is_lower(hill, thing)


def is_beginning(book, thing):
    return is_tuple(thing, 2) and is_ground(book, thing[0]) and is_water(thing[0], thing[1])


@cache
def beginnings(book):
    return tuple((ground, water) for ground in grounds(book) for water in plain.waters(ground))


def begins_with(thing, word, many):
    return is_tuple(thing, many) and type(thing[0]) is str and thing[0] == word


# Programs


def is_row(many, rows, thing):
    if begins_with(thing, "do", 3):
        return plain.is_deed(many, thing[1]) and is_position(thing[2], rows)
    if begins_with(thing, "look", 4):
        return is_position(thing[1], many) and is_position(thing[2], rows) and is_position(thing[3], rows)
    return begins_with(thing, "end", 1)


def is_program(many, thing):
    return type(thing) is tuple and 1 <= len(thing) <= 8 and all(is_row(many, len(thing), row) for row in thing)


def following(program, hill, standing):
    """The standing that comes next; None at an end."""
    row, water = standing
    told = program[row]
    if told[0] == "do":
        return (told[2], plain.run(hill, water, (told[1],)))
    if told[0] == "look":
        return (told[2] if told[1] in water else told[3], water)
    return None


def walk(program, hill, water):
    """The standings of a run up to its end, or up to the first one that comes again, that one twice."""
    found = [(0, water)]
    while True:
        standing = following(program, hill, found[-1])
        if standing is None:
            return found
        found.append(standing)
        if standing in found[:-1]:
            return found


def is_endless(standings):
    return standings[-1] in standings[:-1]


def script_at(program, standings):
    return tuple(program[row][1] for row, _ in standings if program[row][0] == "do")


def run_of(program, hill, water):
    found = walk(program, hill, water)
    if not is_endless(found):
        return ("ends", script_at(program, found), found[-1][1])
    first = found.index(found[-1])
    return ("round", script_at(program, found[:first]), script_at(program, found[first:-1]))


def ends_holds(book, program, thing):
    """Whether any value is a certificate of [6.3]."""
    runs = [walk(program, ground, water) for ground, water in beginnings(book)]
    if begins_with(thing, "ends", 2):
        if any(is_endless(run) for run in runs) or not plain.is_int(thing[1]):
            return False
        return thing[1] == max(map(len, runs))
    if begins_with(thing, "round", 3) and is_beginning(book, thing[1:]):
        return is_endless(walk(program, thing[1], thing[2]))
    return False


def meets(wet, dry, water):
    return set(wet) <= set(water) and not set(dry) & set(water)


def always_holds(book, program, wet, dry, thing):
    """Whether any value is a certificate of [6.4]."""
    if begins_with(thing, "run", 3) and is_beginning(book, thing[1:]):
        standings = walk(program, thing[1], thing[2])
        return not is_endless(standings) and not meets(wet, dry, standings[-1][1])
    if not begins_with(thing, "closed", 2) or type(thing[1]) is not tuple:
        return False
    for triple in thing[1]:
        if not is_tuple(triple, 3) or not is_ground(book, triple[0]):
            return False
        if not is_position(triple[1], len(program)) or not is_water(triple[0], triple[2]):
            return False
    table = set(thing[1])
    if list(thing[1]) != sorted(table) or any((ground, 0, water) not in table for ground, water in beginnings(book)):
        return False
    for ground, row, water in table:
        standing = following(program, ground, (row, water))
        if standing is None and not meets(wet, dry, water):
            return False
        if standing is not None and (ground, *standing) not in table:
            return False
    return True


@cache
def narrow_kinds(ground):
    found = plain_books.kinds_of(ground)
    return sorted(kind for kind in found if all(plain.leq(ground, low, high) for low in kind[0] for high in kind[1]))


def upshots(program, ground, water):
    standings = walk(program, ground, water)
    if is_endless(standings):
        return None
    found = []
    for kind in narrow_kinds(ground):
        left = plain_books.standing(script_at(program, standings), kind)
        if left == "kept" and set(kind[1]) & set(water):
            left = "wet"
        if left == "kept" and set(kind[0]) - set(water):
            left = "dry"
        found.append(left)
    return tuple(found)


def programs_hold(book, one, other, thing):
    """Whether any value is a certificate of [6.5]."""
    if begins_with(thing, "unlike", 3) and is_beginning(book, thing[1:]):
        return upshots(one, *thing[1:]) != upshots(other, *thing[1:])
    if not begins_with(thing, "alike", 2):
        return False
    for ground, water in beginnings(book):
        if upshots(one, ground, water) != upshots(other, ground, water):
            return False
    table = tuple((ground, water, upshots(one, ground, water)) for ground, water in beginnings(book))
    return repr(thing[1]) == repr(table)


# Notes


def is_entry(many, thing):
    if begins_with(thing, "do", 2):
        return plain.is_deed(many, thing[1])
    return begins_with(thing, "saw", 3) and is_position(thing[1], many) and type(thing[2]) is bool


def is_notes(many, thing):
    return type(thing) is tuple and len(thing) <= 12 and all(is_entry(many, entry) for entry in thing)


def past(entry, ground, water):
    """The water behind an entry; None if the entry saw otherwise."""
    if entry[0] == "do":
        return plain.run(ground, water, (entry[1],))
    return water if (entry[1] in water) == entry[2] else None


def water_behind(notes, beginning):
    ground, water = beginning
    for entry in notes:
        water = past(entry, ground, water)
        if water is None:
            return None
    return water


def fitting(book, notes):
    return [beginning for beginning in beginnings(book) if water_behind(notes, beginning) is not None]


def pair_holds(book, notes, a, b, thing):
    """Whether any value is a certificate of [7.2], if some beginning fits."""
    fit = fitting(book, notes)
    if begins_with(thing, "sure", 2) and type(thing[1]) is bool:
        return all(((a, b) in ground[1]) == thing[1] for ground, _ in fit)
    if begins_with(thing, "open", 3) and is_beginning(book, thing[1]) and is_beginning(book, thing[2]):
        if thing[1] in fit and thing[2] in fit:
            return (a, b) in thing[1][0][1] and (a, b) not in thing[2][0][1]
    return False


def are_puts(book, notes, thing):
    if type(thing) is not tuple:
        return False
    for put in thing:
        if not is_tuple(put, 2) or not is_position(put[0], len(notes) + 1) or not plain.is_deed(book[0], put[1]):
            return False
    return all(one[0] <= other[0] for one, other in zip(thing, thing[1:]))


def fits_with_puts(notes, beginning, puts):
    ground, water = beginning
    for position in range(len(notes) + 1):
        water = plain.run(ground, water, tuple(deed for at, deed in puts if at == position))
        if position < len(notes):
            water = past(notes[position], ground, water)
            if water is None:
                return False
    return True


def fewest_lost(book, notes):
    """By trying one number after the other: which beginnings' waters can be come to with so many puts."""
    found = set()
    for ground in grounds(book):
        numbers = {water: 0 for water in plain.waters(ground)}
        for entry in notes:
            numbers = spread(ground, numbers)
            ahead = {}
            for water, number in numbers.items():
                behind = past(entry, ground, water)
                if behind is not None:
                    ahead[behind] = min(number, ahead.get(behind, number))
            numbers = ahead
        found.add(min(spread(ground, numbers).values()))
    return min(found)


def spread(ground, numbers):
    """The fewest puts for each water when deeds are put in, one round after the other."""
    for _ in range(2 * ground[0]):
        more = dict(numbers)
        for water, number in numbers.items():
            for deed in plain.deeds(ground):
                led = plain.run(ground, water, (deed,))
                more[led] = min(number + 1, more.get(led, number + 1))
        numbers = more
    return numbers


def lost_holds(book, notes, most, thing):
    """Whether any value is a certificate of [7.3]."""
    if begins_with(thing, "put", 3):
        if not is_beginning(book, thing[1]) or not are_puts(book, notes, thing[2]):
            return False
        return len(thing[2]) <= most and fits_with_puts(notes, thing[1], thing[2])
    if not begins_with(thing, "table", 2) or type(thing[1]) is not tuple:
        return False
    for row in thing[1]:
        if not is_tuple(row, 4) or not is_position(row[0], len(notes) + 1) or not is_beginning(book, row[1:3]):
            return False
        if not plain.is_int(row[3]) or row[3] < 0:
            return False
    rows = {row[:3]: row[3] for row in thing[1]}
    if list(thing[1]) != sorted(thing[1]) or len(rows) != len(thing[1]):
        return False
    if any(rows.get((0, ground, water)) != 0 for ground, water in beginnings(book)):
        return False
    return all(row_holds(book, notes, most, rows, row) for row in rows)


def row_holds(book, notes, most, rows, row):
    position, ground, water = row
    number = rows[row]
    for deed in plain.deeds(book):
        led = (position, ground, plain.run(ground, water, (deed,)))
        if led not in rows or rows[led] > number + 1:
            return False
    if position == len(notes):
        return number > most
    behind = past(notes[position], ground, water)
    return behind is None or rows.get((position + 1, ground, behind), number + 1) <= number
