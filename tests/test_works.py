"""[13.1] works, [13.2] undone and done again, [13.3] the book of deeds, [13.4] more pairs."""

from random import Random

from pourdrains.errors import BadHill, BadPromise, BadScript, BadTerrace, BadWater, Broken, HillError
from pourdrains.errors import NothingToRedo, NothingToUndo
from pourdrains.works import Works
from tests import plain
from tests.plain_works import Record, is_promise
from tests.same import Case
from tests.test_hills import FLAT_10, LINE_10, POND_10
from tests.test_lots import SOME_4
from tests.test_scripts import long_script
from tests.things import THINGS, changed, made_works, state_of

ONE, STEP, FLAT = (1, ()), (2, ((0, 1),)), (2, ())
FORK = (3, ((0, 2), (1, 2)))
SMALL = plain.hills(1) + plain.hills(2) + plain.hills(3)[::3]
ODD = [None, True, -1, 10, "wet", (), ("wet",), ("wet", True), ("wet", "0"), ["wet", 0], ("damp", 0), [], {}, ("pour", 0)]


def called(works, name, *things):
    """What a call comes to, as the record tells it."""
    try:
        return getattr(works, name)(*things)
    except HillError as error:
        return (type(error), vars(error))


def random_call(random, many, promises):
    """A method's name and its arguments, most of them right for a hill of so many terraces."""
    at, other = random.randrange(many), random.randrange(many)
    odd = random.choice(ODD)
    script = tuple((random.choice(["pour", "open"]), random.randrange(many)) for _ in range(random.randrange(4)))
    promise = (random.choice(["wet", "dry"]), at)
    return random.choice(
        [
            ("do", script),
            ("do", script[:1]),
            ("would", script),
            ("promise", promise),
            ("promise", random.choice(promises or (promise,))),
            ("release", random.choice(promises or (promise,))),
            ("release", promise),
            ("raise_pair", at, other),
            ("undo",),
            ("undo",),
            ("redo",),
            (random.choice(["do", "would", "promise", "release"]), odd),
            ("raise_pair", at, odd),
            ("raise_pair", odd, at),
        ]
    )


class ManyCalls(Case):
    def play(self, hill, water, seed, most):
        """Calls one after the other, all that can be read held against the record behind each of them."""
        random = Random(seed)
        works, record = Works(hill, water), Record(hill, water)
        refused = 0
        for _ in range(most):
            name, *things = random_call(random, hill[0], record.now()[2])
            if name != "raise_pair" or random.random() < 0.4 or things[0] == things[1]:
                wanted = record.call(name, *things)
                got = called(works, name, *things)
                self.same(got, wanted, (hill, seed, name, things))
                refused += isinstance(wanted, tuple) and wanted != () and isinstance(wanted[0], type)
                self.same(state_of(works), record.read(), (hill, seed, name, things))
                self.assertTrue(all_hold(works))
        return refused

    def test_small_hills(self):
        refused = 0
        for at, hill in enumerate(SMALL + SOME_4):
            for seed in range(12):
                waters = plain.waters(hill)
                refused += self.play(hill, waters[(seed + at) % len(waters)], 100 * at + seed, 60)
        self.assertGreater(refused, 1000)

    def test_ten_terraces(self):
        for at, hill in enumerate([LINE_10, FLAT_10, POND_10]):
            for seed in range(6):
                self.play(hill, (), 7000 + 100 * at + seed, 80)

    def test_sixty_deeds_undone_and_done_again(self):
        works, record = Works(FORK), Record(FORK, ())
        for at, deed in enumerate(long_script(FORK, 60, 5)):
            self.same(called(works, "do", (deed,)), record.call("do", (deed,)))
        for name in ("undo", "redo", "undo"):
            for _ in range(61):
                self.same(called(works, name), record.call(name))
                self.same(state_of(works), record.read())
        self.same([works.undoable(), works.redoable()], [0, 60])


def all_hold(works):
    return all((at in works.water()) == (sort == "wet") for sort, at in works.promises())


class New(Case):
    def test_state(self):
        for hill in SMALL + [LINE_10, POND_10]:
            for water in plain.waters(hill):
                self.same(state_of(Works(hill, water)), Record(hill, water).read())
            self.same(state_of(Works(hill=hill)), Record(hill, ()).read())
        self.same(Works(water=(0,), hill=STEP).water(), (0,))

    def test_errors_in_order(self):
        for thing in THINGS:
            if not plain.is_hill(thing):
                self.fails(BadHill, {"thing": thing}, Works, thing)
                self.fails(BadHill, {"thing": thing}, Works, thing, thing)
                self.fails(BadHill, {"thing": thing}, Works, water=None, hill=thing)
        for thing in [*changed((0, 1)), (1,)]:
            if not (plain.is_lot(2, thing) and plain.is_lower(STEP, thing)):
                self.fails(BadWater, {"thing": thing}, Works, STEP, thing)
                self.fails(BadWater, {"thing": thing}, Works, water=thing, hill=STEP)

    def test_nothing_to_undo_or_redo(self):
        works = Works(FORK)
        self.fails(NothingToUndo, {}, works.undo)
        self.fails(NothingToRedo, {}, works.redo)
        self.same(state_of(works), Record(FORK, ()).read())


class Breaking(Case):
    def breaks(self, promise, function, *args, **more):
        """The call would break a promise, which is told first."""
        with self.assertRaises(Broken) as caught:
            function(*args, **more)
        self.same(vars(caught.exception), {"promise": promise})


class Deeds(Breaking):
    def test_methods_return_nothing(self):
        works = Works(STEP)
        found = [works.do((("pour", 0),)), works.promise(("wet", 0)), works.release(("wet", 0)), works.raise_pair(1, 0)]
        self.same(found + [works.undo(), works.redo()], [None] * 6)

    def test_each_kind_undone_and_done_again(self):
        calls = [("do", (("pour", 2),)), ("do", ()), ("promise", ("wet", 0)), ("release", ("dry", 2)), ("raise_pair", 0, 1)]
        for call in calls:
            works = Works(FORK, (0,))
            works.promise(("dry", 2)) if call[0] == "release" else works.do((("open", 2),))
            ahead = state_of(works)
            self.same(called(works, *call), None)
            behind = state_of(works)
            self.same(behind[5:], (2, 0))
            self.assertEqual(works.undo(), None)
            self.same(state_of(works)[:5] + (2, 0), ahead[:5] + (2, 0))
            self.same(state_of(works)[5:], (1, 1))
            works.redo()
            self.same(state_of(works), behind)

    def test_after_a_deed_nothing_can_be_done_again(self):
        for call in [("do", ()), ("promise", ("dry", 0)), ("raise_pair", 0, 1), ("release", ("dry", 1))]:
            works = Works(FORK)
            works.promise(("dry", 1))
            works.do((("open", 0),))
            works.undo()
            self.same(works.redoable(), 1)
            self.same(called(works, *call), None)
            self.same(works.redoable(), 0)
            self.fails(NothingToRedo, {}, works.redo)

    def test_refused_calls_and_reading_leave_what_can_be_done_again(self):
        works = made_works()
        ahead = state_of(works)
        self.same(ahead[5:], (2, 1))
        for call in [("do", None), ("do", (("open", 0),)), ("promise", ("dry", 0)), ("release", ("wet", 1)), ("raise_pair", 0, 0)]:
            self.same(type(called(works, *call)), tuple)
            self.same(state_of(works), ahead)
        works.would((("open", 0),))
        works.copied()
        works.is_same(works)
        self.same(state_of(works), ahead)
        works.redo()
        self.same(works.water(), (0,))

    def test_do(self):
        works = Works(FORK)
        works.do((("pour", 2), ("open", 0)))
        works.do((("pour", 0),))
        self.same([works.water(), works.book_of_deeds()], [(0, 1), (("pour", 2), ("open", 0), ("pour", 0))])
        # What is broken on the way and holds behind the whole script is not broken.
        works.promise(("wet", 0))
        works.do((("open", 0), ("pour", 0)))
        self.breaks(("wet", 0), works.do, (("open", 0),))

    def test_the_first_promise_that_would_be_broken(self):
        works = Works(FLAT, (1,))
        for promise in [("wet", 1), ("dry", 0)]:
            works.promise(promise)
        self.same(works.promises(), (("dry", 0), ("wet", 1)))
        self.breaks(("dry", 0), works.do, (("open", 1), ("pour", 0)))
        self.breaks(("wet", 1), works.do, script=(("open", 1),))

    def test_would(self):
        for hill in SMALL:
            for water in plain.waters(hill):
                works = Works(hill, water)
                for script in [(), long_script(hill, 3, 1), long_script(hill, 60, 3)]:
                    self.same(works.would(script), plain.run(hill, water, script))
                self.same(state_of(works), Record(hill, water).read())
        works = made_works()
        self.same(works.would(script=(("open", 0),)), ())

    def test_scripts_of_any_values(self):
        for thing in [*changed((("pour", 0), ("open", 1)))]:
            works = Works(STEP)
            if not plain.is_script(2, thing):
                for name in ("do", "would"):
                    self.fails(BadScript, {"thing": thing}, getattr(works, name), thing)
                    self.fails(BadScript, {"thing": thing}, getattr(works, name), script=thing)
                self.same(state_of(works), Record(STEP, ()).read())

    def test_a_bad_script_comes_ahead_of_a_broken_promise(self):
        works = made_works()
        bad = (("open", 0), ("open", 2))
        self.fails(BadScript, {"thing": bad}, works.do, bad)


class Promises(Breaking):
    def test_made_twice(self):
        works = Works(STEP, (0,))
        works.promise(("wet", 0))
        works.promise(("wet", 0))
        self.same([works.promises(), works.undoable()], [(("wet", 0),), 2])
        works.undo()
        self.same(works.promises(), (("wet", 0),))
        works.undo()
        self.same(works.promises(), ())

    def test_any_values(self):
        for good in [("wet", 0), ("dry", 1)]:
            for thing in [*changed(good), ("dry", 0), ("wet", 2), ("wet", 1)]:
                works = Works(STEP, (0,))
                if not is_promise(STEP, thing):
                    self.fails(BadPromise, {"thing": thing}, works.promise, thing)
                    self.fails(BadPromise, {"thing": thing}, works.release, thing=thing)
                elif thing in (("wet", 0), ("dry", 1)):
                    self.same(works.promise(thing=thing), None)
                    self.same(works.promises(), (thing,))
                    self.same(works.release(thing), None)
                    self.same(works.promises(), ())
                else:
                    self.fails(Broken, {"promise": thing}, works.promise, thing)
                    self.same(state_of(works), Record(STEP, (0,)).read())

    def test_release_of_what_was_not_promised(self):
        works = made_works()
        for thing in [*changed(("wet", 0)), ("dry", 0), ("wet", 1)]:
            if repr(thing) != repr(("wet", 0)):
                ahead = state_of(works)
                self.fails(BadPromise, {"thing": thing}, works.release, thing)
                self.same(state_of(works), ahead)

    def test_all_of_ten_terraces(self):
        works = Works(LINE_10, tuple(range(5)))
        for at in range(9, -1, -1):
            works.promise(("wet" if at < 5 else "dry", at))
        wanted = tuple(("dry", at) for at in range(5, 10)) + tuple(("wet", at) for at in range(5))
        self.same(works.promises(), wanted)
        self.breaks(("dry", 5), works.do, (("pour", 7),))
        self.breaks(("wet", 2), works.do, (("open", 2),))


class MorePairs(Breaking):
    def test_a_pair_that_is_there_already(self):
        works = Works(STEP, (0,))
        works.do((("open", 1),))
        works.raise_pair(0, 1)
        self.same([works.hill(), works.water(), works.book_of_deeds(), works.undoable()], [STEP, (0,), (), 2])
        works.undo()
        self.same(works.book_of_deeds(), (("open", 1),))

    def test_a_pair_that_closes_a_pond(self):
        works = Works(STEP, (0,))
        works.raise_pair(a=1, b=0)
        self.same([works.hill(), works.water()], [(2, ((0, 1), (1, 0))), (0, 1)])
        line = Works(LINE_10, (0,))
        line.raise_pair(9, 0)
        self.same([line.hill(), line.water()], [POND_10, tuple(range(10))])

    def test_what_lies_below_becomes_wet(self):
        works = Works((3, ((0, 1),)), (2,))
        works.raise_pair(1, 2)
        self.same([works.hill(), works.water()], [(3, ((0, 1), (0, 2), (1, 2))), (0, 1, 2)])
        works.undo()
        self.same([works.hill(), works.water()], [(3, ((0, 1),)), (2,)])

    def test_broken_promises(self):
        works = Works((3, ((0, 1),)), (2,))
        for promise in [("wet", 2), ("dry", 1), ("dry", 0)]:
            works.promise(promise)
        ahead = state_of(works)
        self.breaks(("dry", 0), works.raise_pair, 1, 2)
        self.breaks(("dry", 0), works.raise_pair, 0, 2)
        self.same(state_of(works), ahead)
        works.release(("dry", 0))
        self.breaks(("dry", 1), works.raise_pair, 1, 2)
        works.raise_pair(0, 2)
        self.same(works.water(), (0, 2))

    def test_errors_in_order(self):
        works = Works(STEP)
        for thing in THINGS:
            if not (plain.is_int(thing) and thing in (0, 1)):
                self.fails(BadTerrace, {"thing": thing}, works.raise_pair, thing, None)
                self.fails(BadTerrace, {"thing": thing}, works.raise_pair, b=thing, a=1)
        for at in (0, 1):
            self.fails(BadTerrace, {"thing": at}, works.raise_pair, at, at)
        self.same(state_of(works), Record(STEP, ()).read())

    def test_a_bad_terrace_comes_ahead_of_a_broken_promise(self):
        works = Works(FLAT, (1,))
        works.promise(("dry", 0))
        self.fails(BadTerrace, {"thing": 2}, works.raise_pair, 0, 2)
        self.breaks(("dry", 0), works.raise_pair, 0, 1)


class Copies(Case):
    def test_copied(self):
        works = made_works()
        copy = works.copied()
        self.assertIsNot(copy, works)
        self.assertIs(type(copy), Works)
        self.same(state_of(copy), state_of(works)[:5] + (0, 0))
        self.fails(NothingToUndo, {}, copy.undo)
        self.fails(NothingToRedo, {}, copy.redo)
        self.same(copy.book_of_deeds(), (("pour", 1),))

    def test_neither_changes_the_other(self):
        works = made_works()
        copy = works.copied()
        ahead = state_of(works)
        copy.do((("open", 1),))
        copy.raise_pair(1, 0)
        self.same(state_of(works), ahead)
        ahead = state_of(copy)
        works.undo()
        works.release(("wet", 0)) if ("wet", 0) in works.promises() else None
        self.same(state_of(copy), ahead)

    def test_is_same(self):
        works = made_works()
        self.same([works.is_same(works), works.is_same(works.copied()), works.is_same(thing=made_works())], [True] * 3)
        for other in [Works(STEP, (0, 1)), Works(STEP, (0,)), Works(FLAT, (0, 1)), Works((2, ((0, 1), (1, 0))), (0, 1))]:
            self.same([works.is_same(other), other.is_same(works)], [False, False])
        # Only hill, water and promises are told apart, not what was done.
        other = Works(STEP, (0, 1))
        other.promise(("wet", 0))
        self.same([works.is_same(other), other.is_same(works)], [True, True])
        other.promise(("wet", 1))
        self.same(works.is_same(other), False)

    def test_is_same_of_any_values(self):
        works = Works((2, ((0, 1),)), (0,))
        for thing in [*THINGS, *changed((works.hill(), works.water(), works.promises())), works.text(), (works,)]:
            self.same(works.is_same(thing), False, thing)
