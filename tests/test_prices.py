"""[3.1] prices, [3.2] read backwards, [3.4] certificates, [3.5] from water to water, [3.6] wishes."""

from itertools import product

from pourdrains import prices as told
from pourdrains.errors import BadNumber, BadPrices
from pourdrains.hills import beside
from pourdrains.hills import product as product_of
from tests import plain
from tests.same import Case
from tests.test_lots import SOME_4, line
from tests.things import FEW, THINGS, changed

SMALL = plain.small_hills()
SEVENS = [
    (7, ((0, 4), (1, 4), (1, 5), (2, 5), (2, 6), (3, 6))),
    beside(line(4), line(3)),
    beside(product_of(line(3), line(2)), (1, ())),
    (7, ((0, 1), (0, 2), (1, 0), (1, 2), (3, 4), (3, 5), (4, 5), (5, 4))),
]


def unlike(hill, stride):
    """Prices that are unlike one another, and the same each time."""
    every = [(at * at * stride + 7 * at + stride) % 23 + 1 for at in range(2 * hill[0])]
    return (tuple(every[: hill[0]]), tuple(every[hill[0] :]))


def with_great(hill):
    """Prices of which one is great: the pour at the last terrace."""
    return ((1,) * (hill[0] - 1) + (1000,), (2,) * hill[0])


def all_prices(hill):
    return [plain.even(hill), unlike(hill, 3), unlike(hill, 8), with_great(hill)]


class Prices(Case):
    def test_any_values(self):
        hill = (2, ((0, 1),))
        for thing in changed(((1, 5), (1000, 3))):
            if plain.are_prices(2, thing):
                self.assertIsInstance(told.cheapest(hill, ((), ()), thing), int)
                self.assertIsInstance(told.led_price(hill, (), (), thing), int)
            else:
                self.fails(BadPrices, {"thing": thing}, told.cheapest, hill, ((), ()), thing)
                self.fails(BadPrices, {"thing": thing}, told.led_price, hill, (), (), thing)

    def test_bounds(self):
        hill = (1, ())
        for price in (0, -1, 1001, True, None, "1", 10 ** 39):
            for wrong in [((price,), (1,)), ((1,), (price,))]:
                self.fails(BadPrices, {"thing": wrong}, told.cheapest_script, hill, ((), ()), wrong)
        self.same(told.cheapest(hill, ((0,), ()), ((1000,), (1,))), 1000)

    def test_numbers(self):
        for most in THINGS:
            if isinstance(most, int) and most is not True and most is not False and most >= 0:
                self.same(told.judge_cheapest((1, ()), ((), ()), ((1,), (1,)), most), ("script", ()))
                self.same(told.judge_led((1, ()), (), (), ((1,), (1,)), most), ("script", ()))
            else:
                self.fails(BadNumber, {"thing": most}, told.judge_cheapest, (1, ()), ((), ()), ((1,), (1,)), most)
                self.fails(BadNumber, {"thing": most}, told.judge_led, (1, ()), (), (), ((1,), (1,)), most)


class Cheapest(Case):
    def hold(self, hill, couple, prices, wanted):
        self.same(told.cheapest(hill, couple, prices), wanted, (hill, couple, prices))
        script = told.cheapest_script(hill, couple, prices)
        self.same(plain.couple_of(hill, script), couple)
        self.assertEqual(plain.price_of(prices, script), wanted)
        for most in (0, wanted - 1, wanted, wanted + 1, 100000):
            if most >= 0:
                self.hold_judged(hill, couple, prices, most, wanted)

    def hold_judged(self, hill, couple, prices, most, wanted):
        thing = told.judge_cheapest(hill, couple, prices, most)
        self.assertEqual(thing[0], "script" if wanted <= most else "table")
        self.assertTrue(plain.made_holds(hill, couple, prices, most, thing), (hill, couple, prices, most, thing))
        self.same(told.cheapest_holds(hill, couple, prices, most, thing), True)
        if thing[0] == "script":
            self.assertLessEqual(len(thing[1]), 24)

    def test_all_small_hills(self):
        for hill in SMALL + SOME_4[::4]:
            for prices in all_prices(hill):
                wanted = plain.least_of_couples(hill, prices)
                for couple, number in wanted.items():
                    self.hold(hill, couple, prices, number)

    def test_seven_terraces(self):
        for hill in map(plain.closing, SEVENS):
            for prices in all_prices(hill)[1:]:
                wanted = plain.least_of_couples(hill, prices)
                for couple in sorted(wanted)[:: len(wanted) // 8 + 1]:
                    self.hold(hill, couple, prices, wanted[couple])

    def test_dear_terraces_are_passed_by(self):
        # The pour at 2 is dear, so 0 and 1 are poured at apart.
        vee = (3, ((0, 2), (1, 2)))
        self.hold(vee, ((0, 1), (2,)), ((1, 1, 9), (1, 1, 1)), 3)
        self.hold(vee, ((0, 1), (2,)), ((5, 5, 1), (1, 1, 1)), 2)

    def test_even_prices_are_numbers_of_deeds(self):
        vee = (3, ((0, 2), (1, 2)))
        self.same(told.cheapest(vee, ((0, 1), (2,)), plain.even(vee)), 2)


class CheapestHolds(Case):
    def hold(self, hill, couple, prices, most, others):
        """Certificates that are right, and ones that are changed at one place, as the words say of them."""
        accepted = 0
        for good in self.some_right(hill, couple, prices, most):
            self.same(told.cheapest_holds(hill, couple, prices, most, good), True, good)
            for thing in changed(good, others):
                wanted = plain.made_holds(hill, couple, prices, most, thing)
                self.same(told.cheapest_holds(hill, couple, prices, most, thing), wanted, (hill, couple, thing))
                accepted += wanted
        return accepted

    def some_right(self, hill, couple, prices, most):
        found = [told.judge_cheapest(hill, couple, prices, most)]
        if found[0][0] == "script":
            padded = found[0][1][:1] + found[0][1]
            if plain.price_of(prices, padded) <= most:
                found.append(("script", padded))
        return found

    def test_changed_at_one_place(self):
        cases = 0
        for hill in [(1, ()), (2, ((0, 1),)), (2, ((0, 1), (1, 0))), (3, ((0, 2), (1, 2))), (3, ((0, 1), (0, 2)))]:
            for prices in (plain.even(hill), unlike(hill, 8)):
                for couple in plain.couples(hill)[::3]:
                    least = told.cheapest(hill, couple, prices)
                    for most in {0, max(least - 1, 0), least, least + 5}:
                        cases += self.hold(hill, couple, prices, most, FEW)
        self.assertGreater(cases, 100)

    def test_any_values(self):
        hill, prices = (2, ((0, 1),)), ((1, 2), (3, 1))
        for most in (0, 2, 3):
            self.hold(hill, ((0,), (1,)), prices, most, THINGS)

    def test_lots_that_are_not_come_to(self):
        # 1 alone is not come to: a pour at 1 reaches 0 as well.
        step, even = (2, ((0, 1),)), ((1, 1), (1, 1))
        couple = ((0, 1), ())
        right = (((), 0), ((0,), 1), ((0, 1), 1))
        self.same(told.cheapest_holds(step, couple, even, 0, ("table", right)), True)
        more = right + (((1,), 0),)
        self.same(plain.made_holds(step, couple, even, 0, ("table", more)), True)
        self.same(told.cheapest_holds(step, couple, even, 0, ("table", more)), True)
        self.same(told.cheapest_holds(step, couple, even, 0, ("table", ((), 0) + more)), False)

    def test_lots_that_are_not_of_the_couple(self):
        step, even = (2, ((0, 1),)), ((1, 1), (1, 1))
        right = (((), 0), ((0,), 1))
        more = right + (((0, 1), 1), ((1,), 0))
        self.same(told.cheapest_holds(step, ((0,), ()), even, 0, ("table", right)), True)
        self.same(plain.made_holds(step, ((0,), ()), even, 0, ("table", more)), False)
        self.same(told.cheapest_holds(step, ((0,), ()), even, 0, ("table", more)), False)

    def test_a_lot_twice(self):
        one, even = (1, ()), ((1,), (1,))
        for rows, wanted in [
            ((((), 0), ((0,), 1)), True),
            ((((), 0), ((0,), 0), ((0,), 1)), False),
            ((((), 0), ((0,), 1), ((0,), 2)), False),
            ((((), 0), ((), 1), ((0,), 1)), False),
            ((((), 0), ((), 0), ((0,), 1)), False),
            ((((0,), 1), ((), 0)), False),
        ]:
            self.same(told.cheapest_holds(one, ((0,), ()), even, 0, ("table", rows)), wanted, rows)
            self.same(told.led_holds(one, (), (0,), even, 0, ("table", rows)), wanted, rows)

    def test_all_tables(self):
        step, even, couple = (2, ((0, 1),)), ((1, 1), (1, 1)), ((0,), (1,))
        for numbers in product((None, 0, 1, 2, 3), repeat=4):
            rows = tuple((lot, number) for lot, number in zip(plain.lots(2), numbers) if number is not None)
            for most in (0, 1, 2):
                wanted = plain.made_holds(step, couple, even, most, ("table", rows))
                self.same(told.cheapest_holds(step, couple, even, most, ("table", rows)), wanted, rows)

    def test_all_scripts(self):
        for hill in plain.hills(2):
            prices = unlike(hill, 3)
            for script in plain.scripts_of(hill, 3):
                for couple in plain.couples(hill)[::2]:
                    for most in (0, 20, 30):
                        wanted = plain.made_holds(hill, couple, prices, most, ("script", script))
                        got = told.cheapest_holds(hill, couple, prices, most, ("script", script))
                        self.same(got, wanted)

    def test_by_name(self):
        thing = ("script", (("pour", 0),))
        got = told.cheapest_holds(thing=thing, most=1, prices=((1,), (1,)), couple=((0,), ()), hill=(1, ()))
        self.same(got, True)


class Led(Case):
    def hold(self, hill, water, other, prices, wanted):
        self.same(told.led_price(hill, water, other, prices), wanted, (hill, water, other, prices))
        for most in (0, wanted - 1, wanted, wanted + 1, 100000):
            if most >= 0:
                thing = told.judge_led(hill, water, other, prices, most)
                self.assertEqual(thing[0], "script" if wanted <= most else "table")
                self.assertTrue(plain.led_holds(hill, water, other, prices, most, thing))
                self.same(told.led_holds(hill, water, other, prices, most, thing), True)
                if thing[0] == "script":
                    self.assertLessEqual(len(thing[1]), 24)

    def test_all_small_hills(self):
        for hill in SMALL + SOME_4[::4]:
            for prices in all_prices(hill):
                for water in plain.waters(hill):
                    wanted = plain.least_of_waters(hill, water, prices)
                    self.assertEqual(sorted(wanted), plain.waters(hill))
                    for other, number in wanted.items():
                        self.hold(hill, water, other, prices, number)

    def test_eight_terraces(self):
        for hill in [(8, ()), line(8), product_of(line(4), line(2))]:
            prices = unlike(hill, 5)
            for water in plain.waters(hill)[::60]:
                wanted = plain.least_of_waters(hill, water, prices)
                for other in sorted(wanted)[:: len(wanted) // 5 + 1]:
                    self.hold(hill, water, other, prices, wanted[other])

    def test_changed_at_one_place(self):
        accepted = 0
        for hill in [(1, ()), (2, ()), (2, ((0, 1),)), (3, ((0, 2), (1, 2)))]:
            for prices in (plain.even(hill), unlike(hill, 8)):
                for water, other in list(product(plain.waters(hill), repeat=2))[::3]:
                    least = told.led_price(hill, water, other, prices)
                    for most in {0, max(least - 1, 0), least, least + 5}:
                        good = told.judge_led(hill, water, other, prices, most)
                        accepted += self.hold_changed(hill, water, other, prices, most, good, FEW)
        self.assertGreater(accepted, 100)

    def hold_changed(self, hill, water, other, prices, most, good, others):
        accepted = 0
        for thing in changed(good, others):
            wanted = plain.led_holds(hill, water, other, prices, most, thing)
            got = told.led_holds(hill, water, other, prices, most, thing)
            self.same(got, wanted, (hill, water, other, most, thing))
            accepted += wanted
        return accepted

    def test_any_values(self):
        hill, prices = (2, ((0, 1),)), ((1, 2), (3, 1))
        for most in (0, 2, 4):
            good = told.judge_led(hill, (0, 1), (0,), prices, most)
            self.hold_changed(hill, (0, 1), (0,), prices, most, good, THINGS)

    def test_all_tables(self):
        step, even = (2, ((0, 1),)), ((1, 1), (1, 1))
        for numbers in product((None, 0, 1, 2, 3), repeat=4):
            rows = tuple((lot, number) for lot, number in zip(plain.lots(2), numbers) if number is not None)
            for first, second in product(plain.waters(step), repeat=2):
                wanted = plain.led_holds(step, first, second, even, 0, ("table", rows))
                self.same(told.led_holds(step, first, second, even, 0, ("table", rows)), wanted, rows)

    def test_all_scripts(self):
        for hill in plain.hills(2):
            prices = unlike(hill, 3)
            for script in plain.scripts_of(hill, 2):
                for water, other in product(plain.waters(hill), repeat=2):
                    for most in (0, 20):
                        wanted = plain.led_holds(hill, water, other, prices, most, ("script", script))
                        got = told.led_holds(hill, water, other, prices, most, ("script", script))
                        self.same(got, wanted)

    def test_by_name(self):
        more = {"hill": (1, ()), "water": (), "other": (0,), "prices": ((3,), (1,))}
        self.same(told.led_price(**more), 3)
        self.same(told.judge_led(most=3, **more), ("script", (("pour", 0),)))
        self.same(told.led_holds(thing=("script", (("pour", 0),)), most=2, **more), False)


class Wishes(Case):
    def test_all_small_hills(self):
        for hill in SMALL:
            for prices in (plain.even(hill), unlike(hill, 3)):
                for water in plain.waters(hill):
                    numbers = plain.least_of_waters(hill, water, prices)
                    for wet, dry in product(plain.lots(hill[0]), repeat=2):
                        met = [number for at, number in numbers.items() if set(wet) <= set(at) and not set(dry) & set(at)]
                        wanted = min(met, default=None)
                        self.same(told.wish_price(hill, water, wet, dry, prices), wanted)

    def test_wishes_that_no_water_meets(self):
        for hill in SMALL + SOME_4[::5]:
            every = range(hill[0])
            for wet, dry in list(product(plain.lots(hill[0]), repeat=2))[::5]:
                low = {a for a in every for b in wet if plain.leq(hill, a, b)}
                high = {b for b in every for a in dry if plain.leq(hill, a, b)}
                for water in [(), tuple(every)]:
                    got = told.wish_price(hill, water, wet, dry, plain.even(hill))
                    self.assertEqual(got is None, bool(low & high), (hill, wet, dry))

    def test_nothing_wished(self):
        for hill in SMALL:
            for water in plain.waters(hill):
                self.same(told.wish_price(hill, water, (), (), plain.even(hill)), 0)

    def test_by_name(self):
        got = told.wish_price(prices=((3, 4), (1, 1)), dry=(), wet=(1,), water=(0,), hill=(2, ((0, 1),)))
        self.same(got, 4)

    def test_eight_terraces(self):
        hill = product_of(line(4), line(2))
        prices = unlike(hill, 5)
        numbers = plain.least_of_waters(hill, (0, 1), prices)
        met = [number for at, number in numbers.items() if 5 in at and 4 in at and 6 not in at]
        self.same(told.wish_price(hill, (0, 1), (4, 5), (6,), prices), min(met))
