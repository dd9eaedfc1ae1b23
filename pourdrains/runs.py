"""Runs of programs on a ground, for values that have been checked.

A standing is here the pair of a row's number and the mask of a water.
"""

from pourdrains.checks import is_deed_of, is_terrace_of
from pourdrains.deeds import wet_behind
from pourdrains.errors import BadProgram
from pourdrains.things import has_items, is_within

MOST_ROWS = 8


def is_program_of(many, thing):
    """Whether any value is a program at so many names."""
    if not isinstance(thing, tuple) or not is_within(len(thing), 1, MOST_ROWS):
        return False
    return all(_is_row(many, len(thing), row) for row in thing)


def _is_row(many, rows, thing):
    if has_items(thing, 1):
        return thing[0] == "end"
    if has_items(thing, 3):
        return thing[0] == "do" and is_deed_of(many, thing[1]) and is_within(thing[2], 0, rows - 1)
    if not has_items(thing, 4) or thing[0] != "look" or not is_terrace_of(many, thing[1]):
        return False
    return is_within(thing[2], 0, rows - 1) and is_within(thing[3], 0, rows - 1)


def need_program(many, program):
    """Raise BadProgram for what is no program at so many names."""
    if not is_program_of(many, program):
        raise BadProgram(program)


def standing_behind(program, reached, standing):
    """The standing that comes behind one whose row is no end; reached has the reaches of the ground."""
    at, wet = standing
    row = program[at]
    if row[0] == "do":
        return row[2], wet_behind(wet, row[1], reached[row[1]])
    return (row[2] if wet >> row[1] & 1 else row[3]), wet


def walk(program, reached, wet):
    """The standings of a run, one after the other, and the position of the one that comes again; None if it ends."""
    seen = {}
    standing = 0, wet
    while standing not in seen:
        seen[standing] = len(seen)
        if program[standing[0]][0] == "end":
            return list(seen), None
        standing = standing_behind(program, reached, standing)
    return list(seen), seen[standing]


def script_done(program, standings):
    """The script of the deeds that are done at standings."""
    rows = [program[at] for at, _ in standings]
    return tuple(row[1] for row in rows if row[0] == "do")
