"""Deeds that notes have lost: how few have to be put in so that some beginning fits."""

from pourdrains.beginnings import beginnings_of, grounds_of, is_beginning_of, is_ground_of
from pourdrains.checks import is_deed_of, is_lower_of, need_count
from pourdrains.deeds import reaches, wet_behind
from pourdrains.masks import lot_of, mask_of
from pourdrains.noting import need_notes, wet_at_end, wet_past
from pourdrains.putting import layers_of, puts_to
from pourdrains.things import has_items, is_ascending, is_integer, is_within


def fewest_lost(book, notes):
    """The least number of puts with which some beginning fits."""
    need_notes(book, notes)
    return _least([layers_of(ground, notes) for ground in grounds_of(book)])[0]


def _least(layered):
    """The fewest puts, and the number of the layers and the water behind all entries to which they lead."""
    return min([(way[0], at, wet) for at, layers in enumerate(layered) for wet, way in layers[-1].items()])


def judge_lost(book, notes, most):
    """A certificate that at most so many puts are enough, or that they are not."""
    need_notes(book, notes)
    need_count(most)
    every = grounds_of(book)
    layered = [layers_of(ground, notes) for ground in every]
    number, at, wet = _least(layered)
    if number <= most:
        first, puts = puts_to(layered[at], wet)
        return "put", (every[at], lot_of(first)), puts
    return "table", tuple(sorted(row for ground, layers in zip(every, layered) for row in _rows_of(ground, layers)))


def _rows_of(ground, layers):
    return [
        (position, ground, lot_of(wet), way[0]) for position, layer in enumerate(layers) for wet, way in layer.items()
    ]


def lost_holds(book, notes, most, thing):
    """Whether any value is a certificate that at most so many puts are enough, or that they are not."""
    need_notes(book, notes)
    need_count(most)
    if has_items(thing, 2):
        return thing[0] == "table" and _is_table(book, notes, most, thing[1])
    if not has_items(thing, 3) or thing[0] != "put" or not is_beginning_of(book, thing[1]):
        return False
    if not _are_puts(book, notes, thing[2]) or len(thing[2]) > most:
        return False
    return wet_at_end(_with_entries(notes, thing[2]), thing[1]) is not None


def _are_puts(book, notes, thing):
    if not isinstance(thing, tuple):
        return False
    least = 0
    for put in thing:
        if not has_items(put, 2) or not is_within(put[0], least, len(notes)) or not is_deed_of(book[0], put[1]):
            return False
        least = put[0]
    return True


def _with_entries(notes, puts):
    """Notes with an entry for each deed that is put in."""
    found = []
    for position in range(len(notes) + 1):
        found.extend([("do", deed) for at, deed in puts if at == position])
        found.extend(notes[position : position + 1])
    return found


def _is_table(book, notes, most, thing):
    numbers = _read_rows(book, notes, thing)
    if numbers is None:
        return False
    if not all(numbers.get((0, ground, mask_of(water))) == 0 for ground, water in beginnings_of(book)):
        return False
    reached = {ground: reaches(ground) for ground in grounds_of(book)}
    for (position, ground, wet), number in numbers.items():
        for deed, reach in reached[ground].items():
            if not _is_at_most(numbers, (position, ground, wet_behind(wet, deed, reach)), number + 1):
                return False
        if position == len(notes):
            if number <= most:
                return False
        else:
            led = wet_past(wet, notes[position], reached[ground])
            if led is not None and not _is_at_most(numbers, (position + 1, ground, led), number):
                return False
    return True


def _is_at_most(numbers, key, number):
    return key in numbers and numbers[key] <= number


def _read_rows(book, notes, thing):
    """The numbers of the rows of any value that is an ascending tuple of unlike rows; None if it is none."""
    if not isinstance(thing, tuple) or not all(_is_row(book, notes, row) for row in thing) or not is_ascending(thing):
        return None
    numbers = {(position, ground, mask_of(water)): number for position, ground, water, number in thing}
    if len(numbers) != len(thing):
        return None
    return numbers


def _is_row(book, notes, thing):
    if not has_items(thing, 4) or not is_within(thing[0], 0, len(notes)) or not is_ground_of(book, thing[1]):
        return False
    return is_lower_of(thing[1], thing[2]) and is_integer(thing[3]) and thing[3] >= 0
