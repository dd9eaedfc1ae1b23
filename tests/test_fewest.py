"""[3.1] made couples, [3.2] read backwards, [3.3] on trees."""

from pourdrains.errors import BadCouple, BadHill
from pourdrains.fewest import fewest, fewest_script, serving
from pourdrains.hills import beside, mirror, product
from tests import plain
from tests.same import Case
from tests.test_lots import SOME_4, line
from tests.things import THINGS

SMALL = plain.small_hills()
# As great as hills may be: a crown, lines side by side, grids, ponds with a grid beside, a line.
EIGHTS = [
    (8, ((0, 4), (0, 7), (1, 4), (1, 5), (2, 5), (2, 6), (3, 6), (3, 7))),
    beside(line(4), line(4)),
    product(line(4), line(2)),
    mirror(product(line(2), line(4))),
    beside(beside((2, ((0, 1), (1, 0))), (2, ((0, 1),))), product(line(2), line(2))),
    line(8),
]


def trees_of(many):
    """All trees in which each terrace lies just below one with a greater number, or below none."""
    tops = [()]
    for at in range(many):
        tops = [top + (further,) for top in tops for further in [None] + list(range(at + 1, many))]
    found = []
    for top in tops:
        pairs = tuple((at, further) for at, further in enumerate(top) if further is not None)
        found.append(plain.closing((many, tuple(sorted(pairs)))))
    return found


def serves(hill, couple, terrace):
    wet, dry = couple
    low = [at for at in range(hill[0]) if plain.leq(hill, at, terrace)]
    return all(at in wet or at in dry for at in low) and any(at in wet for at in low)


class Fewest(Case):
    def hold(self, hill, couple, wanted):
        self.same(fewest(hill, couple), wanted, (hill, couple))
        script = fewest_script(hill, couple)
        self.assertTrue(plain.is_script(hill[0], script))
        self.assertEqual(len(script), wanted)
        self.same(plain.couple_of(hill, script), couple)

    def test_all_small_hills(self):
        for hill in SMALL + SOME_4:
            wanted = plain.least_of_couples(hill, plain.even(hill))
            self.assertEqual(sorted(wanted), plain.couples(hill))
            for couple, number in wanted.items():
                self.hold(hill, couple, number)

    def test_fewer_than_pours_and_opens_apart(self):
        # A pour at 2 and then an open at 2 make what pours at 0 and 1 and an open at 2 make.
        self.hold((3, ((0, 2), (1, 2))), ((0, 1), (2,)), 2)

    def test_nothing(self):
        for hill in SMALL + EIGHTS:
            self.hold(hill, ((), ()), 0)
            self.same(fewest_script(hill, ((), ())), ())

    def test_eight_terraces(self):
        for hill in EIGHTS:
            wanted = plain.least_of_couples(hill, plain.even(hill))
            for couple in sorted(wanted)[:: len(wanted) // 50 + 1]:
                self.hold(hill, couple, wanted[couple])

    def test_eight_flat_ones(self):
        self.hold((8, ()), ((0, 1, 2), (3, 4, 5, 6, 7)), 8)
        self.hold((8, ()), ((0,), (7,)), 2)


class Serving(Case):
    def hold(self, hill, couple):
        serve = tuple(at for at in range(hill[0]) if serves(hill, couple, at))
        wanted = (plain.highest(hill, serve), plain.lowest(hill, couple[1]))
        self.same(serving(hill, couple), wanted, (hill, couple))
        pours, opens = wanted
        script = tuple(("pour", at) for at in pours) + tuple(("open", at) for at in opens)
        self.same(plain.couple_of(hill, script), couple)
        self.same(fewest(hill, couple), len(script), (hill, couple))

    def test_all_small_trees(self):
        trees = [hill for many in (1, 2, 3, 4) for hill in plain.hills(many) if plain.is_tree(hill)]
        self.assertEqual(len(trees), 1 + 3 + 16 + 125)
        for hill in trees:
            for couple in plain.couples(hill):
                self.hold(hill, couple)

    def test_greater_trees(self):
        for hill in trees_of(5)[::3] + [line(8), (8, ()), beside(line(4), line(3))]:
            every = plain.couples(hill)
            for couple in every[:: len(every) // 40 + 1]:
                self.hold(hill, couple)
        top = (8, tuple((at, 7) for at in range(7)))
        self.hold(top, (tuple(range(7)), (7,)))
        self.same(serving(top, (tuple(range(7)), (7,))), ((7,), (7,)))

    def test_no_trees(self):
        for hill in plain.hills(3):
            if not plain.is_tree(hill):
                self.fails(BadHill, {"thing": hill}, serving, hill, ((), ()))
                self.fails(BadHill, {"thing": hill}, serving, hill, [None])
                self.fails(BadHill, {"thing": hill}, serving, couple=((0,), (0,)), hill=hill)

    def test_no_hills(self):
        for thing in THINGS:
            if not plain.is_hill(thing):
                self.fails(BadHill, {"thing": thing}, serving, thing, ((), ()))

    def test_no_couples(self):
        hill = (3, ((0, 1), (0, 2), (1, 2)))
        for thing in THINGS:
            if not plain.is_couple(hill, thing):
                self.fails(BadCouple, {"thing": thing}, serving, hill, thing)
