"""Programs that look at gauges: how their runs go on all hills that fit a book of at most three names."""

from pourdrains.beginnings import beginnings_of, grounds_of, is_beginning_of, is_ground_of
from pourdrains.checks import is_lower_of, need_lot, need_water
from pourdrains.deeds import reaches
from pourdrains.errors import BadHill
from pourdrains.hills import need_small_book
from pourdrains.masks import lot_of, mask_of
from pourdrains.runs import is_program_of, need_program, script_done, standing_behind, walk
from pourdrains.things import has_items, is_ascending, is_just, is_within
from pourdrains.upshots import narrow_kinds, upshots_of

MOST_NAMES = 3


def _need_programs(book, programs):
    need_small_book(book, MOST_NAMES)
    for program in programs:
        need_program(book[0], program)


def is_program(book, thing):
    """Whether any value is a program."""
    need_small_book(book, MOST_NAMES)
    return is_program_of(book[0], thing)


def grounds(book):
    """The ascending tuple of all grounds."""
    need_small_book(book, MOST_NAMES)
    return tuple(grounds_of(book))


def run_of(book, program, ground, water):
    """The run of a program from a ground and a water: how it ends, or how it goes round."""
    _need_programs(book, (program,))
    if not is_ground_of(book, ground):
        raise BadHill(ground)
    need_water(ground, water)
    standings, again = walk(program, reaches(ground), mask_of(water))
    if again is None:
        return "ends", script_done(program, standings), lot_of(standings[-1][1])
    return "round", script_done(program, standings[:again]), script_done(program, standings[again:])


def _walk_from(program, ground, water):
    return walk(program, reaches(ground), mask_of(water))


def judge_ends(book, program):
    """A certificate that each run ends, or of one that never does."""
    _need_programs(book, (program,))
    most = 0
    for ground, water in beginnings_of(book):
        standings, again = _walk_from(program, ground, water)
        if again is not None:
            return "round", ground, water
        most = max(most, len(standings))
    return "ends", most


def ends_holds(book, program, thing):
    """Whether any value is a certificate that each run ends, or of one that never does."""
    _need_programs(book, (program,))
    if has_items(thing, 2):
        return is_just(thing, judge_ends(book, program))
    if not has_items(thing, 3) or thing[0] != "round" or not is_beginning_of(book, thing[1:]):
        return False
    return _walk_from(program, thing[1], thing[2])[1] is not None


def _need_always(book, program, wet, dry):
    _need_programs(book, (program,))
    need_lot(book[0], wet)
    need_lot(book[0], dry)


def _meets(wet, dry, water):
    """Whether the mask of a water has all names of one lot, and none of another one."""
    return mask_of(wet) & ~water == 0 and mask_of(dry) & water == 0


def judge_always(book, program, wet, dry):
    """A certificate that runs end only with names wet and names dry, or of one that ends otherwise."""
    _need_always(book, program, wet, dry)
    table = {}
    for ground, water in beginnings_of(book):
        standings, again = _walk_from(program, ground, water)
        if again is None and not _meets(wet, dry, standings[-1][1]):
            return "run", ground, water
        for row, left in standings:
            table[(ground, row, lot_of(left))] = True
    return "closed", tuple(sorted(table))


def always_holds(book, program, wet, dry, thing):
    """Whether any value is a certificate that runs end only with names wet and names dry, or of another one."""
    _need_always(book, program, wet, dry)
    if has_items(thing, 2):
        return thing[0] == "closed" and _is_closed_table(book, program, wet, dry, thing[1])
    if not has_items(thing, 3) or thing[0] != "run" or not is_beginning_of(book, thing[1:]):
        return False
    standings, again = _walk_from(program, thing[1], thing[2])
    return again is None and not _meets(wet, dry, standings[-1][1])


def _is_closed_table(book, program, wet, dry, thing):
    known = _read_table(book, program, thing)
    if known is None or not all((ground, 0, mask_of(water)) in known for ground, water in beginnings_of(book)):
        return False
    reached = {ground: reaches(ground) for ground in grounds_of(book)}
    for ground, row, left in known:
        if program[row][0] == "end":
            if not _meets(wet, dry, left):
                return False
        elif (ground,) + standing_behind(program, reached[ground], (row, left)) not in known:
            return False
    return True


def _read_table(book, program, thing):
    """The triples of any value that is an ascending tuple of such, with masks; None if it is none."""
    if not isinstance(thing, tuple) or not all(_is_triple(book, program, triple) for triple in thing):
        return None
    if not is_ascending(thing):
        return None
    return {(ground, row, mask_of(water)): True for ground, row, water in thing}


def _is_triple(book, program, thing):
    if not has_items(thing, 3) or not is_within(thing[1], 0, len(program) - 1):
        return False
    return is_ground_of(book, thing[0]) and is_lower_of(thing[0], thing[2])


def judge_programs(book, one, other):
    """A certificate that two programs are alike, or of where they are not."""
    _need_programs(book, (one, other))
    kinds = {ground: narrow_kinds(ground) for ground in grounds_of(book)}
    table = []
    for ground, water in beginnings_of(book):
        upshots = upshots_of(one, ground, kinds[ground], water)
        if upshots != upshots_of(other, ground, kinds[ground], water):
            return "unlike", ground, water
        table.append((ground, water, upshots))
    return "alike", tuple(table)


def programs_hold(book, one, other, thing):
    """Whether any value is a certificate that two programs are alike, or of where they are not."""
    _need_programs(book, (one, other))
    if has_items(thing, 2):
        # All grounds, waters and kinds are told, so there is just one table that is right.
        return is_just(thing, judge_programs(book, one, other))
    if not has_items(thing, 3) or thing[0] != "unlike" or not is_beginning_of(book, thing[1:]):
        return False
    _, ground, water = thing
    kinds = narrow_kinds(ground)
    return upshots_of(one, ground, kinds, water) != upshots_of(other, ground, kinds, water)
