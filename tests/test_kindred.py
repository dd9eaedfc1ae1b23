"""[11.5] kinds on a hill, [11.6] hills that are alike but for names."""

from itertools import permutations, product

from pourdrains.errors import BadHill, BadLot
from pourdrains.kindred import hills_hold, judge_hills, kinds_on, least_part
from tests import plain, plain_maps
from tests.same import Case
from tests.test_hills import FLAT_10, LINE_10, POND_10
from tests.test_lots import SOME_4
from tests.things import FEW, THINGS, changed

ONE, STEP, FLAT = (1, ()), (2, ((0, 1),)), (2, ())
SMALL = plain.hills(1) + plain.hills(2) + plain.hills(3)
# Seven terraces and six: a zigzag of six, and a ring of four beside a line of two, have equal counts.
ZIGZAG = (6, ((0, 3), (1, 3), (1, 4), (2, 4), (2, 5)))
RING_AND_STEP = (6, ((0, 3), (0, 4), (1, 3), (1, 4), (2, 5)))
ZIGZAG_7 = (7, ZIGZAG[1])
RING_AND_STEP_7 = (7, RING_AND_STEP[1])
LINE_7 = (7, tuple((a, b) for a in range(7) for b in range(a + 1, 7)))
POND_7 = (7, tuple((a, b) for a in range(7) for b in range(7) if a != b))


def some_names(hill):
    """Names in any order, few and many of them."""
    rows = [row for many in range(1, hill[0] + 1) for row in permutations(range(hill[0]), many)]
    return rows if len(rows) < 20 else rows[:: len(rows) // 20]


def script_at_names(names, script):
    return tuple((sort, names[at]) for sort, at in script)


def leaves_the_same(hill, one, other):
    return all(plain.run(hill, water, one) == plain.run(hill, water, other) for water in plain.waters(hill))


class Kinds(Case):
    def test_against_the_words(self):
        for hill in SMALL + SOME_4:
            for names in some_names(hill):
                self.same(kinds_on(hill, names), plain_maps.kinds_on(hill, names), (hill, names))

    def test_least_parts(self):
        for hill in SMALL + SOME_4:
            for names in some_names(hill):
                part = least_part(hill, names)
                self.same(part, plain_maps.least_part(hill, names), (hill, names))
                # The hill within it has the same kinds, each of the further terraces one of its own.
                within = plain_maps.hill_within(hill, part)
                told = tuple(part.index(name) for name in names)
                self.same(kinds_on(within, told), kinds_on(hill, names))
                self.same(least_part(within, told), tuple(range(within[0])))

    def test_ten_terraces(self):
        for hill in [LINE_10, FLAT_10, POND_10]:
            for names in [(0,), (9,), (5, 2), (9, 0, 4, 7), tuple(range(10)), tuple(range(9, -1, -1))]:
                self.same(kinds_on(hill=hill, names=names), plain_maps.kinds_on(hill, names))
                self.same(least_part(hill=hill, names=names), plain_maps.least_part(hill, names))

    def test_edges(self):
        self.same([kinds_on(ONE, (0,)), least_part(ONE, (0,))], [(((0,), (0,)),), (0,)])
        self.same([kinds_on(POND_10, (7,)), least_part(POND_10, (7,))], [(((0,), (0,)),), (7,)])
        self.same([kinds_on(FLAT_10, (7,)), least_part(FLAT_10, (7,))], [(((), ()), ((0,), (0,))), (0, 7)])
        self.same(least_part(LINE_10, (5,)), (0, 5, 6))
        self.same(kinds_on(STEP, (1, 0)), (((0, 1), (0,)), ((1,), (0, 1))))

    def test_scripts_at_names(self):
        """They leave the same exactly if the last deeds that reach each kind that stands there are of one sort."""
        apart = 0
        for hill in SMALL[::2] + SOME_4[::2]:
            for names in some_names(hill)[::3]:
                scripts = plain.scripts_of((len(names), ()), 2)[:: 1 if len(names) < 3 else 7]
                for one in scripts[::3]:
                    for other in scripts[::2]:
                        alike = all(last_at(kind, one) == last_at(kind, other) for kind in kinds_on(hill, names))
                        first, second = script_at_names(names, one), script_at_names(names, other)
                        self.assertEqual(leaves_the_same(hill, first, second), alike, (hill, names, one, other))
                        apart += not alike
        self.assertGreater(apart, 100)

    def test_on_least_parts_scripts_part_likewise(self):
        for hill in SOME_4[::2]:
            for names in some_names(hill)[::4]:
                part = least_part(hill, names)
                within, told = plain_maps.hill_within(hill, part), tuple(part.index(name) for name in names)
                scripts = plain.scripts_of((len(names), ()), 2)[::5]
                for one, other in zip(scripts, scripts[::-1]):
                    wide = [script_at_names(names, script) for script in (one, other)]
                    small = [script_at_names(told, script) for script in (one, other)]
                    self.assertEqual(leaves_the_same(hill, *wide), leaves_the_same(within, *small))

    def test_errors_in_order(self):
        for function in (kinds_on, least_part):
            for thing in THINGS:
                if not plain.is_hill(thing):
                    self.fails(BadHill, {"thing": thing}, function, thing, ())
            for thing in [*changed((2, 0)), (0, 1, 2, 0)]:
                if not plain_maps.are_names(3, thing):
                    self.fails(BadLot, {"thing": thing}, function, names=thing, hill=(3, ()))
            self.fails(BadLot, {"thing": ()}, function, ONE, ())


def last_at(kind, script):
    """The sort of the last deed of a script told by positions that reaches a kind."""
    below, above = kind
    found = [sort for sort, at in script if at in (above if sort == "pour" else below)]
    return found[-1] if found else None


class Hills(Case):
    def hold(self, one, other):
        thing = judge_hills(one, other)
        if plain_maps.counts(one) != plain_maps.counts(other):
            wanted = "counts"
        else:
            wanted = "names" if plain_maps.leading(one, other) else "none"
        self.assertEqual(thing[0], wanted, (one, other))
        self.assertTrue(plain_maps.hills_hold(one, other, thing), (one, other, thing))
        self.same(hills_hold(one, other, thing), True)
        return wanted

    def test_small_hills(self):
        found = set()
        for many in (1, 2, 3):
            for one, other in product(plain.hills(many), repeat=2):
                found.add(self.hold(one, other))
        self.assertEqual(found, {"names", "counts"})

    def test_all_renamings(self):
        for hill in SMALL + SOME_4:
            for names in permutations(range(hill[0])):
                self.assertEqual(self.hold(hill, led(hill, names)), "names")

    def test_four_terraces(self):
        every = plain.hills(4)
        for one in every[::23]:
            for other in every[::7]:
                self.hold(one, other)

    def test_equal_counts(self):
        for one, other in [(ZIGZAG, RING_AND_STEP), (ZIGZAG_7, RING_AND_STEP_7)]:
            self.same(plain_maps.counts(one), plain_maps.counts(other))
            self.same([judge_hills(one, other), judge_hills(other, one)], [("none",), ("none",)])
            self.same(hills_hold(one, other, ("none",)), True)
            self.same(hills_hold(one, one, ("none",)), False)
            turned = led(other, tuple(range(one[0]))[::-1])
            self.same(judge_hills(one, turned), ("none",))
            self.assertEqual(self.hold_renamed(one, led(one, tuple(range(one[0]))[::-1])), "names")

    def hold_renamed(self, one, other):
        thing = judge_hills(one, other)
        self.assertTrue(plain_maps.is_leading(one, other, thing[1]))
        self.same(hills_hold(one, other, thing), True)
        return thing[0]

    def test_seven_terraces(self):
        turns = [(6, 5, 4, 3, 2, 1, 0), (3, 1, 4, 0, 5, 2, 6), (1, 2, 3, 4, 5, 6, 0)]
        for hill in [LINE_7, POND_7, (7, ()), ZIGZAG_7, RING_AND_STEP_7, (7, ((0, 1), (1, 0), (2, 3)))]:
            for names in turns:
                self.assertEqual(self.hold_renamed(hill, led(hill, names)), "names")
        self.assertEqual(judge_hills(LINE_7, POND_7)[0], "counts")

    def test_edges(self):
        self.same(judge_hills(ONE, ONE), ("names", (0,)))
        self.same(judge_hills(STEP, FLAT), ("counts", ((1, 2), (2, 1)), ((1, 1), (1, 1))))
        self.same(judge_hills(FLAT, FLAT)[0], "names")
        self.same(judge_hills(other=STEP, one=(2, ((1, 0),))), ("names", (1, 0)))

    def test_changed_certificates(self):
        cases = [(STEP, FLAT), (STEP, (2, ((1, 0),))), (FLAT, FLAT), (ONE, ONE), ((3, ((0, 1),)), (3, ((2, 0),)))]
        for one, other in cases + [(ZIGZAG, RING_AND_STEP), (ZIGZAG, ZIGZAG)]:
            for thing in changed(judge_hills(one, other), FEW if one[0] == 6 else THINGS):
                wanted = plain_maps.hills_hold(one, other, thing)
                self.same(hills_hold(one, other, thing), wanted, (one, other, thing))

    def test_all_names(self):
        for one, other in product(plain.hills(3)[::3], plain.hills(3)[::2]):
            for row in product(range(3), repeat=3):
                wanted = plain_maps.hills_hold(one, other, ("names", row))
                self.same(hills_hold(one, other, ("names", row)), wanted)

    def test_counts_that_are_equal_tell_nothing(self):
        counts = plain_maps.counts(ZIGZAG)
        self.same(hills_hold(ZIGZAG, RING_AND_STEP, ("counts", counts, counts)), False)
        self.same(hills_hold(STEP, FLAT, ("none",)), False)
        self.same(hills_hold(STEP, FLAT, ("counts", ((1, 2), (2, 1)), ((1, 1), (True, 1)))), False)

    def test_any_values(self):
        for thing in THINGS + [("names", thing) for thing in THINGS] + [("counts", thing, thing) for thing in THINGS]:
            for other in (STEP, FLAT):
                wanted = plain_maps.hills_hold(STEP, other, thing)
                self.same(hills_hold(thing=thing, other=other, one=STEP), wanted, thing)

    def test_errors_in_order(self):
        for function, more in [(judge_hills, ()), (hills_hold, (None,))]:
            for thing in THINGS:
                if not plain.is_hill(thing):
                    self.fails(BadHill, {"thing": thing}, function, thing, None, *more)
                if not plain.is_hill(thing) or thing[0] != 2:
                    self.fails(BadHill, {"thing": thing}, function, STEP, thing, *more)
            self.fails(BadHill, {"thing": ONE}, function, STEP, ONE, *more)


def led(hill, names):
    return (hill[0], tuple(sorted((names[a], names[b]) for a, b in hill[1])))
