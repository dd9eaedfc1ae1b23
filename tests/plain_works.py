"""The words of part 13, followed as plainly as can be: a record of all states, and texts read line by line."""

import re
from functools import cache

from pourdrains import errors
from tests import plain
from tests.plain_books import is_position, is_tuple


def is_promise(hill, thing):
    return is_tuple(thing, 2) and type(thing[0]) is str and thing[0] in ("wet", "dry") and is_position(thing[1], hill[0])


def holds(promise, water):
    return promise[1] in water if promise[0] == "wet" else promise[1] not in water


def hill_text(hill):
    return "\n".join([f"hill {hill[0]}"] + [f"{a} {b}" for a, b in hill[1]])


def text_of(hill, water, promises):
    lines = [hill_text(hill), "water" + "".join(f" {at}" for at in water)]
    return "\n".join(lines + [f"promise {sort} {at}" for sort, at in promises])


class Record:
    """All states of works, one behind the other, and the number of the one that stands."""

    def __init__(self, hill, water):
        self.states = [(hill, water, (), ())]
        self.at = 0

    def now(self):
        return self.states[self.at]

    def read(self):
        """All that can be read of the works, as tests.things.state_of tells it."""
        hill, water, promises, book = self.now()
        return (hill, water, promises, book, text_of(hill, water, promises), self.at, len(self.states) - 1 - self.at)

    def add(self, *state):
        self.states = self.states[: self.at + 1] + [state]
        self.at += 1

    def call(self, name, *things):
        """What the call of a method comes to: None, a value, or an error's class and attributes."""
        return getattr(self, name)(*things)

    def broken(self, promises, water):
        for promise in sorted(promises):
            if not holds(promise, water):
                return (errors.Broken, {"promise": promise})
        return None

    def would(self, script):
        hill, water, _, _ = self.now()
        if not plain.is_script(hill[0], script):
            return (errors.BadScript, {"thing": script})
        return plain.run(hill, water, script)

    def do(self, script):
        hill, water, promises, book = self.now()
        if not plain.is_script(hill[0], script):
            return (errors.BadScript, {"thing": script})
        left = plain.run(hill, water, script)
        error = self.broken(promises, left)
        if error is None:
            self.add(hill, left, promises, book + script)
        return error

    def promise(self, thing):
        hill, water, promises, book = self.now()
        if not is_promise(hill, thing):
            return (errors.BadPromise, {"thing": thing})
        if not holds(thing, water):
            return (errors.Broken, {"promise": thing})
        self.add(hill, water, tuple(sorted({*promises, thing})), book)
        return None

    def release(self, thing):
        hill, water, promises, book = self.now()
        if repr(thing) not in map(repr, promises):
            return (errors.BadPromise, {"thing": thing})
        self.add(hill, water, tuple(sorted({*promises} - {thing})), book)
        return None

    def raise_pair(self, a, b):
        hill, water, promises, _ = self.now()
        for thing in (a, b):
            if not is_position(thing, hill[0]):
                return (errors.BadTerrace, {"thing": thing})
        if a == b:
            return (errors.BadTerrace, {"thing": b})
        raised = plain.closing((hill[0], tuple(sorted({*hill[1], (a, b)}))))
        wetter = tuple(at for at in range(hill[0]) if any(plain.leq(raised, at, wet) for wet in water))
        error = self.broken(promises, wetter)
        if error is None:
            self.add(raised, wetter, promises, ())
        return error

    def undo(self):
        if self.at == 0:
            return (errors.NothingToUndo, {})
        self.at -= 1
        return None

    def redo(self):
        if self.at == len(self.states) - 1:
            return (errors.NothingToRedo, {})
        self.at += 1
        return None


NUMBER = "(0|[1-9][0-9]*)"


def numbers_in(pattern, line):
    """The integers that a line of a form tells; None if it has another form."""
    found = re.fullmatch(pattern.replace("N", NUMBER), line)
    return None if found is None else tuple(map(int, found.groups()))


def read_text(text):
    """What a text tells: ("works", hill, water, promises), or ("wrong", the number of BadText)."""
    if type(text) is not str:
        return ("wrong", 0)
    lines = text.split("\n")
    head = numbers_in("hill N", lines[0])
    if head is None or not 1 <= head[0] <= 10:
        return ("wrong", 1)
    pairs, at = [], 1
    while at < len(lines) and lines[at].split(" ")[0] != "water":
        pair = numbers_in("N N", lines[at])
        if pair is None or not plain.is_told(head[0], (*pairs, pair)):
            return ("wrong", at + 1)
        pairs.append(pair)
        at += 1
    hill = (head[0], tuple(pairs))
    if at == len(lines) or not plain.is_hill(hill):
        return ("wrong", at + 1)
    waters = water_lines(hill)
    if lines[at] not in waters:
        return ("wrong", at + 1)
    water, promises = waters[lines[at]], []
    for number, line in enumerate(lines[at + 1 :], at + 2):
        promise = read_promise(line)
        if promise is None or not is_promise(hill, promise) or not holds(promise, water):
            return ("wrong", number)
        if promises and not promises[-1] < promise:
            return ("wrong", number)
        promises.append(promise)
    return ("works", hill, water, tuple(promises))


@cache
def water_lines(hill):
    """All lines of a water of a hill, with the waters that they tell."""
    return {text_of(hill, water, ()).split("\n")[-1]: water for water in plain.waters(hill)}


def read_promise(line):
    for sort in ("wet", "dry"):
        found = numbers_in(f"promise {sort} N", line)
        if found is not None:
            return (sort, found[0])
    return None
