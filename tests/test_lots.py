"""[1.3] lots, [1.4] highest ones and just above."""

from pourdrains import lots
from pourdrains.hills import beside, mirror, product
from tests import plain
from tests.same import Case
from tests.test_hills import FLAT_10, LINE_10, POND_10
from tests.things import changed

SOME_4 = plain.hills(4)[::7]


def line(many):
    return (many, tuple((a, b) for a in range(many) for b in range(a + 1, many)))


class Lots(Case):
    def test_any_values(self):
        for hill in plain.small_hills():
            sorts = [
                (lots.is_lot, plain.lots(hill[0])),
                (lots.is_lower, plain.waters(hill)),
                (lots.is_upper, plain.uppers(hill)),
            ]
            for function, wanted in sorts:
                good = [repr(lot) for lot in wanted]
                for thing in changed(tuple(range(hill[0]))):
                    self.same(function(hill, thing), repr(thing) in good, (hill, thing))
                for lot in plain.lots(hill[0]):
                    self.same(function(hill=hill, thing=lot), repr(lot) in good, (hill, lot))

    def test_nothing_and_all(self):
        for hill in plain.small_hills() + [LINE_10, FLAT_10, POND_10]:
            for lot in [(), tuple(range(hill[0]))]:
                for function in (lots.is_lot, lots.is_lower, lots.is_upper):
                    self.same(function(hill, lot), True)
                for function in (lots.lower_of, lots.upper_of):
                    self.same(function(hill, lot), lot)

    def test_ponds(self):
        for hill in plain.small_hills() + SOME_4 + [LINE_10, FLAT_10, POND_10]:
            wanted = sorted({plain.pond(hill, at) for at in range(hill[0])})
            self.same(lots.ponds(hill), tuple(wanted))


class Closings(Case):
    def test_all_lots(self):
        for hill in plain.small_hills() + SOME_4:
            every = range(hill[0])
            for lot in plain.lots(hill[0]):
                low = tuple(a for a in every if any(plain.leq(hill, a, b) for b in lot))
                high = tuple(a for a in every if any(plain.leq(hill, b, a) for b in lot))
                self.same(lots.lower_of(hill, lot), low)
                self.same(lots.upper_of(hill, lot), high)


class Ends(Case):
    def test_all_lots(self):
        for hill in plain.small_hills() + SOME_4:
            for lot in plain.lots(hill[0]):
                self.same(lots.highest(hill, lot), plain.highest(hill, lot), (hill, lot))
                self.same(lots.lowest(hill, lot), plain.lowest(hill, lot), (hill, lot))
                self.same(lots.lowest(mirror(hill), lot), plain.highest(hill, lot), (hill, lot))

    def test_a_lower_lot_is_the_closing_of_its_highest(self):
        for hill in plain.small_hills() + SOME_4:
            for water in plain.waters(hill):
                self.same(lots.lower_of(hill, lots.highest(hill, water)), water)
            for lot in plain.uppers(hill):
                self.same(lots.upper_of(hill, lots.lowest(hill, lot)), lot)

    def test_the_least_of_a_pond_within_the_lot(self):
        hill = (3, ((0, 1), (0, 2), (1, 2), (2, 1)))
        self.same(lots.highest(hill, (0, 1, 2)), (1,))
        self.same(lots.highest(hill, (0, 2)), (2,))
        self.same(lots.lowest(POND_10, (3, 5, 8)), (3,))

    def test_just_above(self):
        for hill in plain.small_hills() + plain.hills(4) + [LINE_10, FLAT_10, POND_10]:
            for at in range(hill[0]):
                self.same(lots.just_above(hill, at), plain.just_above(hill, at), (hill, at))

    def test_a_whole_pond_just_above(self):
        hill = (3, ((0, 1), (0, 2), (1, 2), (2, 1)))
        self.same([lots.just_above(hill, at) for at in range(3)], [(1, 2), (), ()])


class Certificates(Case):
    def wanted(self, hill, lot):
        if plain.is_lower(hill, lot):
            return [repr(("lower",))]
        return [
            repr(("missing", a, b))
            for a in range(hill[0])
            for b in range(hill[0])
            if (a, b) in hill[1] and b in lot and a not in lot
        ]

    def test_judged(self):
        for hill in plain.small_hills() + SOME_4:
            for lot in plain.lots(hill[0]):
                self.assertIn(repr(lots.judge_lower(hill, lot)), self.wanted(hill, lot))
                self.same(lots.lower_holds(hill, lot, lots.judge_lower(hill, lot)), True)

    def test_exactly_the_right_ones_hold(self):
        for hill in plain.hills(3):
            for lot in plain.lots(3):
                wanted = self.wanted(hill, lot)
                for a in range(-1, 4):
                    for b in range(-1, 4):
                        thing = ("missing", a, b)
                        self.same(lots.lower_holds(hill, lot, thing), repr(thing) in wanted)
                for thing in [("lower",), ("missing",), ("lower", 0, 1), ("lower", 0), "lower"]:
                    self.same(lots.lower_holds(hill=hill, lot=lot, thing=thing), repr(thing) in wanted)

    def test_any_values(self):
        hill = (3, ((0, 1), (0, 2)))
        for lot in plain.lots(3):
            wanted = self.wanted(hill, lot)
            for good in [("lower",), ("missing", 0, 1)]:
                for thing in changed(good):
                    self.same(lots.lower_holds(hill, lot, thing), repr(thing) in wanted, (lot, thing))


class Waters(Case):
    def test_all_small_hills(self):
        for hill in plain.small_hills() + SOME_4:
            self.same(lots.waters(hill), tuple(plain.waters(hill)))
            self.same(lots.many_waters(hill), len(plain.waters(hill)))

    def test_ten_terraces(self):
        self.same(lots.waters(LINE_10), tuple(tuple(range(k)) for k in range(11)))
        self.same(lots.waters(POND_10), ((), tuple(range(10))))
        self.same([lots.many_waters(LINE_10), lots.many_waters(POND_10)], [11, 2])

    def test_nearly_three_hundred(self):
        hill = beside(beside(line(3), line(2)), beside(line(2), (3, ())))
        self.same(lots.many_waters(hill), 4 * 3 * 3 * 8)
        self.same(lots.waters(hill), tuple(plain.waters(hill)))

    def test_products(self):
        self.same(lots.many_waters(product(line(5), line(2))), 21)
        self.same(lots.many_waters(product(line(3), line(3))), 20)
        self.same(lots.many_waters(product((3, ()), line(3))), 64)
