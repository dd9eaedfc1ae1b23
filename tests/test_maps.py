"""[11.1] maps, [11.2] carried back, [11.3] pushed on, [11.4] single maps."""

from itertools import product

from pourdrains import maps
from pourdrains.errors import BadDeed, BadHill, BadMap, BadScript, BadWater
from pourdrains.scripts import run
from tests import plain, plain_maps
from tests.same import Case
from tests.test_hills import FLAT_10, LINE_10, POND_10
from tests.test_lots import SOME_4
from tests.test_scripts import long_script
from tests.things import FEW, THINGS, changed

ONE, STEP, FLAT = (1, ()), (2, ((0, 1),)), (2, ())
SMALL = plain.hills(1) + plain.hills(2) + plain.hills(3)[::4]
FIVES = [
    (5, ()),
    (5, ((0, 1), (2, 3), (2, 4), (3, 4))),
    (5, ((0, 4), (1, 4), (2, 4), (3, 4))),
    (5, ((0, 1), (1, 0), (2, 0), (2, 1), (3, 4))),
]
PAIRS = [(one, other) for one in SMALL for other in SMALL]
# A map of each tenth terrace, one that brings all together, one that leads a flat hill into a line.
TENS = [
    (LINE_10, LINE_10, tuple(range(10))),
    (LINE_10, LINE_10, (0, 0, 0, 3, 3, 5, 5, 9, 9, 9)),
    (FLAT_10, LINE_10, (3, 1, 4, 1, 5, 9, 2, 6, 5, 3)),
    (POND_10, POND_10, (9, 8, 7, 6, 5, 4, 3, 2, 1, 0)),
    (LINE_10, POND_10, (3, 1, 4, 1, 5, 9, 2, 6, 5, 3)),
    (FLAT_10, FLAT_10, (0,) * 10),
    (POND_10, ONE, (0,) * 10),
    (ONE, LINE_10, (4,)),
]


def some_maps():
    """Pairs of hills with maps of the one into the other."""
    found = []
    for at, (one, other) in enumerate(PAIRS):
        every = plain_maps.maps(one, other)
        found += [(one, other, places) for places in every[at % 3 :: 1 + len(every) // 4]]
    found += [(one, other, plain_maps.maps(one, other)[7]) for one in SOME_4[:3] for other in SOME_4[3:6]]
    return found + TENS


def few(waters):
    """All of some waters, or some of them if there are many."""
    return waters[:: 1 + len(waters) // 30]


class Maps(Case):
    def test_all_tuples(self):
        for one, other in PAIRS:
            for row in product(range(-1, other[0] + 1), repeat=one[0]):
                self.same(maps.is_map(one, other, row), plain_maps.is_map(one, other, row), (one, other, row))

    def test_any_values(self):
        for one, other in [(ONE, STEP), (STEP, STEP), (STEP, FLAT), ((3, ((0, 1), (1, 0))), STEP)]:
            for thing in changed(plain_maps.maps(one, other)[-1]):
                self.same(maps.is_map(one=one, other=other, thing=thing), plain_maps.is_map(one, other, thing), thing)

    def test_many(self):
        for one, other in PAIRS:
            self.same(maps.many_maps(one, other), len(plain_maps.maps(one, other)), (one, other))
        for one in FIVES:
            for other in FIVES + [ONE, STEP]:
                self.same(maps.many_maps(one=one, other=other), len(plain_maps.maps(one, other)), (one, other))

    def test_one_and_then_another(self):
        for one, middle in PAIRS[::5]:
            for other in SMALL[::3]:
                for first in plain_maps.maps(one, middle)[::2]:
                    for second in plain_maps.maps(middle, other)[::3]:
                        both = tuple(second[place] for place in first)
                        self.same(maps.is_map(one, other, both), True)

    def test_edges(self):
        for one, other, places in TENS:
            self.same(maps.is_map(one, other, places), True)
            self.same(maps.is_map(one, other, places + (0,)), False)
        self.same([maps.many_maps(ONE, ONE), maps.many_maps(ONE, FLAT_10), maps.many_maps((5, ()), (5, ()))], [1, 10, 3125])
        # Beyond what can be looked at one by one: in a line each terrace is at or above the one ahead.
        self.same([maps.many_maps(FLAT_10, FLAT_10), maps.many_maps(LINE_10, LINE_10)], [10 ** 10, 92378])
        self.same([maps.many_maps(POND_10, LINE_10), maps.many_maps(POND_10, POND_10)], [10, 10 ** 10])
        # A pond stays together only in a pond.
        pond = (2, ((0, 1), (1, 0)))
        self.same([maps.many_maps(pond, STEP), maps.many_maps(pond, pond)], [2, 4])
        self.same(maps.is_map(LINE_10, LINE_10, tuple(range(9, -1, -1))), False)


class CarriedBack(Case):
    def test_waters(self):
        for one, other, places in some_maps():
            for water in plain.waters(other):
                found = maps.carried_water(one, other, places, water)
                self.same(found, plain_maps.carried_water(places, water))
                self.assertTrue(plain.is_lower(one, found))

    def test_deeds(self):
        for one, other, places in some_maps():
            for deed in plain.deeds(other):
                wanted = plain_maps.carried_deed(one, other, places, deed)
                self.same(maps.carried_deed(one, other, places, deed), wanted, (one, other, places, deed))
                self.assertEqual(list(wanted), sorted(wanted))

    def test_scripts(self):
        for one, other, places in some_maps():
            for script in [(), long_script(other, 3, 1), long_script(other, 60, 7)]:
                wanted = plain_maps.carried_script(one, other, places, script)
                self.same(maps.carried_script(one, other, places, script), wanted)

    def test_runs_on_both_hills(self):
        for one, other, places in some_maps():
            for stride in (1, 2, 5):
                script = long_script(other, 6, stride)
                led = maps.carried_script(one, other, places, script)
                for water in plain.waters(other):
                    left = maps.carried_water(one, other, places, run(other, water, script))
                    self.same(run(one, maps.carried_water(one, other, places, water), led), left)

    def test_edges(self):
        self.same(maps.carried_script(FLAT_10, ONE, (0,) * 10, (("pour", 0),)), tuple(("pour", at) for at in range(10)))
        self.same(maps.carried_deed(ONE, LINE_10, (4,), ("pour", 3)), ())
        self.same(maps.carried_deed(ONE, LINE_10, (4,), ("open", 4)), (("open", 0),))
        self.same(maps.carried_deed(POND_10, ONE, (0,) * 10, ("open", 0)), (("open", 0),))
        self.same(maps.carried_water(POND_10, ONE, (0,) * 10, (0,)), tuple(range(10)))
        self.same(maps.carried_water(POND_10, ONE, (0,) * 10, ()), ())


class PushedOn(Case):
    def test_waters(self):
        for one, other, places in some_maps():
            for water in plain.waters(one)[:40]:
                found = maps.pushed_water(one, other, places, water)
                self.same(found, plain_maps.pushed_water(other, places, water))
                self.assertTrue(plain.is_lower(other, found))

    def test_behind_a_pour(self):
        for one, other, places in some_maps():
            for x in range(one[0]):
                for water in plain.waters(one)[::5]:
                    pushed = maps.pushed_water(one, other, places, run(one, water, (("pour", x),)))
                    first = maps.pushed_water(one, other, places, water)
                    self.same(pushed, run(other, first, (("pour", places[x]),)))

    def test_within_what_is_carried_back(self):
        for one, other, places in some_maps():
            for water in few(plain.waters(one)):
                pushed = maps.pushed_water(one, other, places, water)
                for wet in few(plain.waters(other)):
                    carried = maps.carried_water(one, other, places, wet)
                    self.assertEqual(set(pushed) <= set(wet), set(water) <= set(carried))

    def test_edges(self):
        self.same(maps.pushed_water(ONE, LINE_10, (4,), (0,)), (0, 1, 2, 3, 4))
        self.same(maps.pushed_water(ONE, LINE_10, (4,), ()), ())
        self.same(maps.pushed_water(FLAT_10, POND_10, (3,) * 10, (9,)), tuple(range(10)))


class Single(Case):
    def hold(self, one, other, places):
        lengths = [len(plain_maps.carried_deed(one, other, places, deed)) for deed in plain.deeds(other)]
        thing = maps.judge_single(one, other, places)
        self.assertEqual(thing[0], "single" if max(lengths) <= 1 else "wide", (one, other, places))
        self.assertTrue(plain_maps.single_holds(one, other, places, thing), (one, other, places, thing))
        self.same(maps.single_holds(one, other, places, thing), True)
        return thing[0]

    def test_all_maps(self):
        found = {"single": 0, "wide": 0}
        for one, other in PAIRS:
            for places in plain_maps.maps(one, other):
                found[self.hold(one, other, places)] += 1
        self.assertGreater(min(found.values()), 50)

    def test_more_terraces(self):
        self.assertEqual({self.hold(*row) for row in some_maps()}, {"single", "wide"})

    def test_changed_certificates(self):
        for one, other in [(STEP, STEP), (FLAT, ONE), (ONE, STEP), ((3, ((0, 2), (1, 2))), STEP), (STEP, (3, ()))]:
            for places in plain_maps.maps(one, other)[::2]:
                for thing in changed(maps.judge_single(one, other, places), FEW + [-1, ("open", 1), ("open", 0)]):
                    wanted = plain_maps.single_holds(one, other, places, thing)
                    self.same(maps.single_holds(one, other, places, thing), wanted, (one, other, places, thing))

    def test_all_wide_ones(self):
        one = (3, ((0, 2),))
        for other in (ONE, STEP, FLAT):
            for places in plain_maps.maps(one, other):
                for sort, x, a, b in product(("pour", "open"), range(other[0]), range(-1, 4), range(-1, 4)):
                    thing = ("wide", (sort, x), a, b)
                    wanted = plain_maps.single_holds(one, other, places, thing)
                    self.same(maps.single_holds(one, other, places, thing), wanted, (other, places, thing))

    def test_all_single_ones(self):
        for one, other in [(STEP, STEP), (FLAT, STEP), (ONE, FLAT)]:
            around = range(-1, one[0])
            for places in plain_maps.maps(one, other):
                for told in product(around, repeat=2 * other[0]):
                    thing = ("single", told[: other[0]], told[other[0] :])
                    wanted = plain_maps.single_holds(one, other, places, thing)
                    self.same(maps.single_holds(one, other, places, thing), wanted)

    def test_any_values(self):
        for places in [(0, 0), (0, 1)]:
            for thing in THINGS + [("single", (0, 0), thing) for thing in THINGS]:
                wanted = plain_maps.single_holds(STEP, STEP, places, thing)
                self.same(maps.single_holds(thing=thing, places=places, other=STEP, one=STEP), wanted, thing)

    def test_edges(self):
        self.same(maps.judge_single(ONE, ONE, (0,)), ("single", (0,), (0,)))
        self.same(maps.judge_single(POND_10, ONE, (0,) * 10), ("single", (0,), (0,)))
        self.same(maps.judge_single(ONE, LINE_10, (9,)), ("single", (-1,) * 9 + (0,), (0,) * 10))
        self.same(maps.judge_single(LINE_10, LINE_10, tuple(range(10)))[1:], (tuple(range(10)),) * 2)
        self.same(maps.judge_single(FLAT_10, FLAT_10, (0,) * 10)[0], "wide")


class Errors(Case):
    def test_in_order(self):
        functions = [(maps.carried_water, 1), (maps.pushed_water, 1), (maps.carried_deed, 1), (maps.carried_script, 1)]
        functions += [(maps.judge_single, 0), (maps.single_holds, 1)]
        for thing in THINGS:
            for function, more in functions + [(maps.is_map, 0), (maps.many_maps, -1)]:
                if not plain.is_hill(thing):
                    self.fails(BadHill, {"thing": thing}, function, thing, *[None] * (2 + more))
                    self.fails(BadHill, {"thing": thing}, function, STEP, thing, *[None] * (1 + more))
            for function, more in functions:
                if not plain_maps.is_map(STEP, FLAT, thing):
                    self.fails(BadMap, {"thing": thing}, function, STEP, FLAT, thing, *[[]] * more)

    def test_waters_and_deeds_of_the_right_hill(self):
        # STEP has the water (0,) and not (1,); FLAT has both.
        for thing in [*changed((0, 1)), (1,)]:
            if not (plain.is_lot(2, thing) and plain.is_lower(STEP, thing)):
                self.fails(BadWater, {"thing": thing}, maps.carried_water, water=thing, places=(0, 0), one=FLAT, other=STEP)
                self.fails(BadWater, {"thing": thing}, maps.pushed_water, STEP, FLAT, (0, 0), thing)
        self.same([maps.carried_water(STEP, FLAT, (1, 1), (1,)), maps.pushed_water(FLAT, STEP, (0, 1), (1,))], [(0, 1), (0, 1)])
        for thing in [*changed(("pour", 0)), ("pour", 1), ("open", 2)]:
            if not plain.is_deed(1, thing):
                self.fails(BadDeed, {"thing": thing}, maps.carried_deed, STEP, ONE, (0, 0), thing)
                script = (("pour", 0), thing)
                self.fails(BadScript, {"thing": script}, maps.carried_script, STEP, ONE, (0, 0), script)
        for thing in THINGS:
            if not plain.is_script(1, thing):
                self.fails(BadScript, {"thing": thing}, maps.carried_script, script=thing, places=(0, 0), other=ONE, one=STEP)
