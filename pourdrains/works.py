"""Works: a hill, a water on it and promises, with what was done, so that it can be undone and done again."""

from pourdrains.checks import is_lower_of, is_terrace_of, need_terrace, need_water
from pourdrains.errors import BadPromise, BadTerrace, BadText, Broken, NothingToRedo, NothingToUndo
from pourdrains.hills import need_hill
from pourdrains.hilltexts import hill_text, read_hill
from pourdrains.lots import lower_of
from pourdrains.masks import closed
from pourdrains.scripts import run
from pourdrains.things import has_items

SORTS = ("dry", "wet")


class Works:
    """A hill under deeds and promises; all promises hold at all times."""

    def __init__(self, hill, water=()):
        need_hill(hill)
        need_water(hill, water)
        # The hill, the water, the promises and the book of deeds; they are always replaced together.
        self._now = hill, water, (), ()
        self._past = []
        self._undone = []

    def hill(self):
        """The hill."""
        return self._now[0]

    def water(self):
        """The wet terraces."""
        return self._now[1]

    def promises(self):
        """The ascending tuple of the promises."""
        return self._now[2]

    def book_of_deeds(self):
        """The script of all that was done since the works were new or a pair was raised."""
        return self._now[3]

    def text(self):
        """The text of the works."""
        hill, water, promises, _ = self._now
        lines = [hill_text(hill), _water_line(water)]
        return "\n".join(lines + [_promise_line(promise) for promise in promises])

    def undoable(self):
        """How many deeds can be undone."""
        return len(self._past)

    def redoable(self):
        """How many deeds can be done again."""
        return len(self._undone)

    def do(self, script):
        """Do a script."""
        hill, _, promises, book = self._now
        water = self.would(script)
        _keep(promises, water)
        self._take((hill, water, promises, book + script))

    def would(self, script):
        """The water that a script would leave."""
        return run(self.hill(), self.water(), script)

    def promise(self, thing):
        """Make a promise."""
        hill, water, promises, book = self._now
        if not _is_promise_of(hill, thing):
            raise BadPromise(thing)
        _keep((thing,), water)
        self._take((hill, water, tuple(sorted(set(promises + (thing,)))), book))

    def release(self, thing):
        """Take a promise back."""
        hill, water, promises, book = self._now
        if not _is_promise_of(hill, thing) or thing not in promises:
            raise BadPromise(thing)
        self._take((hill, water, tuple(promise for promise in promises if promise != thing), book))

    def raise_pair(self, a, b):
        """Tell that one terrace lies below another one."""
        (many, pairs), water, promises, _ = self._now
        need_terrace(many, a)
        need_terrace(many, b)
        if a == b:
            raise BadTerrace(b)
        raised = closed((many, pairs + ((a, b),)))
        wetter = lower_of(raised, water)
        _keep(promises, wetter)
        self._take((raised, wetter, promises, ()))

    def _take(self, state):
        self._past.append(self._now)
        self._undone = []
        self._now = state

    def undo(self):
        """Give all back as it was ahead of the last deed that is not undone."""
        if not self._past:
            raise NothingToUndo()
        self._undone.append(self._now)
        self._now = self._past.pop()

    def redo(self):
        """Give all back as it was ahead of the last undo."""
        if not self._undone:
            raise NothingToRedo()
        self._past.append(self._now)
        self._now = self._undone.pop()

    def copied(self):
        """New works with the same hill, water, promises and book of deeds."""
        return _works_with(self._now)

    def is_same(self, thing):
        """Whether any value is works with an equal hill, water and promises."""
        if not isinstance(thing, Works):
            return False
        return (thing.hill(), thing.water(), thing.promises()) == (self.hill(), self.water(), self.promises())


def _works_with(state):
    works = Works(state[0], state[1])
    works._now = state
    return works


def _is_promise_of(hill, thing):
    return has_items(thing, 2) and thing[0] in SORTS and is_terrace_of(hill[0], thing[1])


def _holds(promise, water):
    return (promise[0] == "wet") == (promise[1] in water)


def _keep(promises, water):
    """Raise Broken with the first promise that a water would break."""
    for promise in promises:
        if not _holds(promise, water):
            raise Broken(promise)


def _water_line(water):
    return " ".join(["water"] + [str(at) for at in water])


def _promise_line(promise):
    return f"promise {promise[0]} {promise[1]}"


def read_works(text):
    """New works with a text."""
    if not isinstance(text, str):
        raise BadText(0)
    lines = text.split("\n")
    heads = [at for at, line in enumerate(lines) if line.split(" ")[0] == "water"]
    ahead = heads[0] if heads else len(lines)
    hill = read_hill("\n".join(lines[:ahead]))
    if ahead == len(lines):
        raise BadText(len(lines) + 1)
    water = _read_water(hill, lines[ahead], ahead + 1)
    return _works_with((hill, water, _read_promises(hill, water, lines, ahead + 1), ()))


def _read_water(hill, line, at):
    # Looking words up among those that can be written leaves no other spelling of a number.
    known = {str(terrace): terrace for terrace in range(hill[0])}
    water = tuple(known.get(word, -1) for word in line.split(" ")[1:])
    if not is_lower_of(hill, water):
        raise BadText(at)
    return water


def _read_promises(hill, water, lines, first):
    known = {_promise_line((sort, at)): (sort, at) for sort in SORTS for at in range(hill[0])}
    promises = []
    for at in range(first, len(lines)):
        promise = known.get(lines[at])
        if promise is None or not _holds(promise, water) or (promises and promise <= promises[-1]):
            raise BadText(at + 1)
        promises.append(promise)
    return tuple(promises)
