"""[4.5] alike, [4.6] where scripts part, [4.8] never wetter."""

from itertools import product

from pourdrains.alike import alike_holds, are_alike, judge_alike, judge_never_wetter, never_wetter_holds
from pourdrains.errors import BadBook, BadScript
from pourdrains.kinds import world_of
from tests import plain, plain_books
from tests.same import Case
from tests.test_scripts import long_script
from tests.test_steps import BOOKS_2, BOOKS_3, OPEN_CHAIN, RING, SIXES
from tests.things import FEW, THINGS, changed

STEP = (2, ((0, 1),))
HILLS = {many: plain.hills(many) for many in (1, 2, 3, 4)}


def some_scripts(book):
    """Scripts of a book, some of them alike and some not."""
    if book[0] == 1:
        return plain.scripts_of(book, 4)
    if book[0] == 2:
        return plain.scripts_of(book, 2) + plain.scripts_of(book, 4)[21::14]
    return plain.scripts_of(book, 1) + plain.scripts_of(book, 3)[7::12]


def pairs_of_scripts(book):
    every = some_scripts(book)
    return [(one, other) for at, one in enumerate(every) for other in every[at % 3 :: 3]]


def turned(script, stride):
    """A long script that is alike to a script: swaps, and deeds that go out again."""
    row = list(script)
    for at in range(stride % 4, len(row) - 1, 4):
        if row[at][0] == row[at + 1][0]:
            row[at], row[at + 1] = row[at + 1], row[at]
    for at in range(len(row) - 1, -1, -3):
        if len(row) < 24:
            row.insert(max(0, at - stride), row[at])
    return tuple(row)


def leaves_wetter(hill, one, other):
    """Whether from some water the first script leaves something wet that the second one does not."""
    return any(set(plain.run(hill, at, one)) - set(plain.run(hill, at, other)) for at in plain.waters(hill))


class Alike(Case):
    def hold(self, book, one, other):
        wanted = plain_books.standings(book, one) == plain_books.standings(book, other)
        self.same(are_alike(book, one, other), wanted, (book, one, other))
        thing = judge_alike(book, one, other)
        self.assertEqual(thing[0], "steps" if wanted else "parts")
        self.assertTrue(plain_books.alike_holds(book, one, other, thing), (book, one, other, thing))
        self.same(alike_holds(book, one, other, thing), True)
        self.assertLessEqual(len(thing[1]), 300)
        return thing

    def test_small_books(self):
        found = {"steps": 0, "parts": 0}
        for book in BOOKS_2 + BOOKS_3:
            for one, other in pairs_of_scripts(book):
                found[self.hold(book, one, other)[0]] += 1
        self.assertGreater(min(found.values()), 100)

    def test_all_kinds_of_alike_scripts(self):
        for book in BOOKS_2[1:] + BOOKS_3:
            groups = {}
            for script in plain.scripts_of(book, 3)[:: 1 if book[0] < 3 else 4]:
                groups.setdefault(plain_books.standings(book, script), []).append(script)
            for scripts in groups.values():
                for other in scripts[1:8]:
                    self.assertEqual(self.hold(book, scripts[0], other)[0], "steps")

    def test_six_names_and_24_deeds(self):
        most = 0
        for book in SIXES:
            for stride in range(1, 6):
                one = long_script(book, 24, stride)
                for other in [one[::-1], turned(one[:20], stride), long_script(book, 24, stride + 1), one[:20]]:
                    thing = self.hold_long(book, one[:20], other)
                    if thing[0] == "steps":
                        most = max(most, len(thing[1]))
        self.assertGreater(most, 20)

    def test_runs_of_one_sort(self):
        # Many swaps are needed: 24 deeds of one sort, and the same ones turned round.
        for book in SIXES:
            for sort in ("pour", "open"):
                down = tuple((sort, name) for name in (5, 4, 3, 2, 1, 0) * 4)
                self.assertEqual(self.hold_long(book, down, down[::-1])[0], "steps")
            down = tuple((sort, name) for sort in ("pour", "open") * 2 for name in (5, 4, 3, 2, 1, 0))
            up = tuple((sort, name) for sort in ("pour", "open") for name in range(6))
            self.assertEqual(self.hold_long(book, down, up)[0], "steps")
            self.assertEqual(self.hold_long(book, up, down)[0], "steps")

    def hold_long(self, book, one, other):
        named = plain_books.named_kinds(book)
        wanted = all(plain_books.standing(one, kind) == plain_books.standing(other, kind) for kind in named)
        self.same(are_alike(book, one, other), wanted)
        thing = judge_alike(book, one, other)
        self.assertEqual(thing[0], "steps" if wanted else "parts")
        self.assertTrue(plain_books.alike_holds(book, one, other, thing), (book, one, other, thing))
        self.same(alike_holds(book, one, other, thing), True)
        self.assertLessEqual(len(thing[1]), 300)
        return thing

    def test_on_worlds(self):
        for book in BOOKS_2 + BOOKS_3[::3]:
            for one, other in pairs_of_scripts(book)[:: 3 if book[0] < 3 else 9]:
                thing = judge_alike(book, one, other)
                kinds = plain_books.kinds_of(book) if thing[0] == "steps" else [thing[1:]]
                for kind in kinds:
                    world = world_of(book, kind)
                    left = [self.left_at_last(world, script) for script in (one, other)]
                    self.assertEqual(left[0] == left[1], thing[0] == "steps", (book, one, other, kind))

    def left_at_last(self, world, script):
        """Whether the last terrace of a world is wet behind a script, for each of its waters."""
        return [world[0] - 1 in plain.run(world, water, script) for water in plain.waters(world)]

    def test_on_hills_that_fit(self):
        for book in BOOKS_2:
            for size, stride in [(book[0], 1), (book[0] + 1, 1), (book[0] + 2, 7)]:
                fit = [hill for hill in HILLS[size] if set(book[1]) <= set(hill[1])]
                for one, other in pairs_of_scripts(book)[::5]:
                    if are_alike(book, one, other):
                        for hill in fit[::stride]:
                            for water in plain.waters(hill):
                                self.assertEqual(plain.run(hill, water, one), plain.run(hill, water, other))

    def test_kinds_of_4_6_are_enough(self):
        for book in BOOKS_2 + BOOKS_3[::2]:
            named = plain_books.named_kinds(book)
            for one, other in pairs_of_scripts(book)[::2]:
                apart = any(plain_books.standing(one, kind) != plain_books.standing(other, kind) for kind in named)
                self.assertEqual(apart, plain_books.standings(book, one) != plain_books.standings(book, other))

    def test_edges(self):
        self.same(judge_alike(STEP, (), ()), ("steps", ()))
        self.same(judge_alike((1, ()), (("pour", 0),), (("pour", 0),)), ("steps", ()))
        self.same(are_alike((1, ()), (), (("pour", 0),)), False)
        self.same(are_alike(RING, (("pour", 0), ("open", 1)), (("pour", 2), ("open", 0))), True)
        self.same(are_alike(OPEN_CHAIN, (("pour", 0), ("open", 1), ("pour", 2)), (("open", 1), ("pour", 2))), True)
        self.same(are_alike((2, ()), (("pour", 0), ("open", 1)), (("open", 1), ("pour", 0))), False)


class AlikeHolds(Case):
    def hold(self, book, one, other, good, others):
        """Certificates that are right, and ones that are changed at one place, as the words say of them."""
        self.same(alike_holds(book, one, other, good), True, (book, one, other, good))
        accepted = 0
        for thing in changed(good, others):
            wanted = plain_books.alike_holds(book, one, other, thing)
            self.same(alike_holds(book, one, other, thing), wanted, (book, one, other, thing))
            accepted += wanted
        return accepted

    def test_changed_steps(self):
        accepted = 0
        for book in [(1, ()), STEP, (2, ((0, 1), (1, 0))), OPEN_CHAIN]:
            for stride in range(1, 4):
                one = long_script(book, 5, stride)
                other = turned(one, stride)
                accepted += self.hold(book, one, other, judge_alike(book, one, other), FEW)
        self.assertGreater(accepted, 0)

    def test_changed_kinds(self):
        for book in [STEP, (2, ()), OPEN_CHAIN, RING]:
            for one, other in [((), (("pour", 0),)), ((("pour", 0), ("open", 1)), (("open", 1), ("pour", 0)))]:
                if not are_alike(book, one, other):
                    self.hold(book, one, other, judge_alike(book, one, other), THINGS)

    def test_all_kinds(self):
        for book in BOOKS_2 + BOOKS_3[::3]:
            for one, other in pairs_of_scripts(book)[:: 11 if book[0] < 3 else 41]:
                for kind in product(plain.lots(book[0]), repeat=2):
                    wanted = plain_books.alike_holds(book, one, other, ("parts",) + kind)
                    self.same(alike_holds(book, one, other, ("parts",) + kind), wanted)

    def test_steps_must_come_to_the_other_script(self):
        one, other = (("pour", 0), ("pour", 1)), (("pour", 1),)
        self.same(alike_holds(STEP, one, other, ("steps", (("strike", 0, 1),))), True)
        self.same(alike_holds(STEP, one, other, ("steps", ())), False)
        self.same(alike_holds(STEP, other, one, ("steps", (("strike", 0, 1),))), False)
        self.same(alike_holds(STEP, other, one, ("steps", (("put", 0, ("pour", 0), 1),))), True)

    def test_300_steps(self):
        one, other = (("pour", 0), ("pour", 1)), (("pour", 1), ("pour", 0))
        book = (2, ())
        self.same(alike_holds(book, one, one, ("steps", (("swap", 0),) * 300)), True)
        self.same(alike_holds(book, one, other, ("steps", (("swap", 0),) * 300)), False)
        self.same(alike_holds(book, one, other, ("steps", (("swap", 0),) * 299)), True)
        puts = tuple(("put", 0, ("pour", 0), 1) for _ in range(150))
        strikes = tuple(("strike", 149 - at, 150 - at) for at in range(150))
        self.same(alike_holds(book, one, one, ("steps", puts + strikes)), True)
        self.same(alike_holds(book, one, one, ("steps", puts + strikes[1:])), False)

    def test_any_values(self):
        one, other = (("pour", 1), ("pour", 0)), (("pour", 1),)
        for thing in THINGS + [("steps", thing) for thing in THINGS] + [("parts", (), thing) for thing in THINGS]:
            for second in (one, other, ()):
                wanted = plain_books.alike_holds(STEP, one, second, thing)
                self.same(alike_holds(book=STEP, one=one, other=second, thing=thing), wanted)


class NeverWetter(Case):
    def wetter_kinds(self, kinds, one, other):
        """Those of some kinds at which the standing of the first script is wetter."""
        left = [(kind, plain_books.standing(one, kind), plain_books.standing(other, kind)) for kind in kinds]
        return [kind for kind, first, second in left if plain_books.wetter(first, second)]

    def hold(self, book, one, other):
        wanted = self.wetter_kinds(plain_books.kinds_of(book), one, other) != []
        thing = judge_never_wetter(book, one, other)
        self.assertEqual(thing[0], "wetter" if wanted else "never", (book, one, other))
        self.assertTrue(plain_books.never_wetter_holds(book, one, other, thing), (book, one, other, thing))
        self.same(never_wetter_holds(book, one, other, thing), True)
        self.same(never_wetter_holds(book, one, other, ("never",)), not wanted)
        if wanted:
            # [4.8]: a kind of [4.6] is enough.
            self.assertNotEqual(self.wetter_kinds(plain_books.named_kinds(book), one, other), [])
        return thing

    def test_small_books(self):
        found = {"never": 0, "wetter": 0}
        for book in BOOKS_2 + BOOKS_3[::2]:
            for one, other in pairs_of_scripts(book)[:: 2 if book[0] < 3 else 5]:
                for first, second in [(one, other), (other, one)]:
                    found[self.hold(book, first, second)[0]] += 1
        self.assertGreater(min(found.values()), 100)

    def test_on_worlds_and_hills_that_fit(self):
        for book in BOOKS_2:
            fit = [hill for size in (book[0], book[0] + 1) for hill in HILLS[size] if set(book[1]) <= set(hill[1])]
            for one, other in pairs_of_scripts(book)[::7]:
                thing = judge_never_wetter(book, one, other)
                if thing[0] == "wetter":
                    self.assertTrue(leaves_wetter(world_of(book, thing[1:]), one, other), (book, one, other, thing))
                else:
                    self.assertFalse(any(leaves_wetter(hill, one, other) for hill in fit), (book, one, other))

    def test_six_names_and_24_deeds(self):
        for book in SIXES:
            for stride in range(1, 5):
                one = long_script(book, 24, stride)
                for other in [one + (("pour", 3),), one + (("open", 3),), one[1:], turned(one[:20], stride)]:
                    for first, second in [(one[:24], other[:24]), (other[:24], one[:24])]:
                        thing = judge_never_wetter(book, first, second)
                        named = plain_books.named_kinds(book)
                        wetter = self.wetter_kinds(named, first, second)
                        self.assertEqual(thing[0], "wetter" if wetter else "never")
                        self.same(never_wetter_holds(book, first, second, thing), True)
                        for kind in named:
                            self.same(never_wetter_holds(book, first, second, ("wetter",) + kind), kind in wetter)

    def test_order_of_standings(self):
        one = (1, ())
        rows = [(("open", 0),), (), (("pour", 0),)]
        for low, high in product(range(3), repeat=2):
            found = judge_never_wetter(one, rows[low], rows[high])[0]
            self.same(found, "never" if low <= high else "wetter")

    def test_changed_certificates(self):
        for book in [(1, ()), STEP, OPEN_CHAIN]:
            turn = (("pour", 0), ("open", 0))
            for one, other in [((), turn[1:]), (turn[1:], ()), (turn[:1], turn), (turn, turn[:1])]:
                good = judge_never_wetter(book, one, other)
                for thing in changed(good):
                    wanted = plain_books.never_wetter_holds(book, one, other, thing)
                    self.same(never_wetter_holds(book, one, other, thing), wanted, (book, one, other, thing))

    def test_all_kinds(self):
        for book in BOOKS_2 + BOOKS_3[::5]:
            for one, other in pairs_of_scripts(book)[:: 17 if book[0] < 3 else 67]:
                for kind in product(plain.lots(book[0]), repeat=2):
                    wanted = plain_books.never_wetter_holds(book, one, other, ("wetter",) + kind)
                    self.same(never_wetter_holds(book, one, other, ("wetter",) + kind), wanted)


class Errors(Case):
    def test_in_order(self):
        for function, more in [
            (are_alike, {}),
            (judge_alike, {}),
            (alike_holds, {"thing": None}),
            (judge_never_wetter, {}),
            (never_wetter_holds, {"thing": None}),
        ]:
            for thing in THINGS:
                if not plain.is_book(thing):
                    self.fails(BadBook, {"thing": thing}, function, other=None, one=None, book=thing, **more)
                if not plain.is_script(2, thing):
                    self.fails(BadScript, {"thing": thing}, function, STEP, thing, [], *more.values())
                    self.fails(BadScript, {"thing": thing}, function, STEP, (), thing, *more.values())
