"""[8.1] weights, [8.2] long run, [8.3] forgetting."""

from fractions import Fraction
from itertools import combinations, product
from math import gcd

from pourdrains.chances import after_ticks, forgotten_by, is_weights, long_chances, long_share, mean_wait
from pourdrains.errors import BadHill, BadNumber, BadTerrace, BadWater, BadWeights, Unreached
from tests import plain
from tests.same import Case
from tests.test_programs import pick
from tests.things import THINGS, changed

ONE = (1, ())
STEP = (2, ((0, 1),))
COIN = ((("open", 0), 1), (("pour", 0), 3))
BOTH = ((("open", 1), 1), (("pour", 0), 1))
HALF = ((("open", 0), 2), (("pour", 0), 3))
FIVES = [(5, ()), (5, ((0, 1), (2, 3), (2, 4), (3, 4))), (5, ((0, 4), (1, 4), (2, 4), (3, 4)))]
SIXES = [(6, ()), (6, ((0, 1), (0, 2), (1, 2), (3, 4), (4, 3))), (6, ((0, 3), (1, 3), (1, 4), (2, 4), (2, 5)))]
SMALL = plain.hills(1) + plain.hills(2) + plain.hills(3)[::3]


def are_weights(hill, thing):
    if type(thing) is not tuple or not thing:
        return False
    for pair in thing:
        if type(pair) is not tuple or len(pair) != 2 or not plain.is_deed(hill[0], pair[0]):
            return False
        if not plain.is_int(pair[1]) or not 1 <= pair[1] <= 1000:
            return False
    return list(thing) == sorted(thing) and len({deed for deed, _ in thing}) == len(thing)


def weights_of(hill, seed):
    """Weights of some of the deeds, or of all of them."""
    every = sorted(plain.deeds(hill))
    chosen = [deed for at, deed in enumerate(every) if seed % 3 == 0 or pick(seed, at, 3)]
    chosen = chosen or every[seed % len(every) :][:1]
    return tuple((deed, (1, 1000, 7, 30)[pick(seed, 50 + at, 4)]) for at, deed in enumerate(chosen))


def reached_by(hill, weights):
    return {at for deed, _ in weights for at in plain.reach(hill, deed)}


def first_unreached(hill, weights):
    return min(set(range(hill[0])) - reached_by(hill, weights), default=None)


def cases(hills, seeds):
    """Hills and weights by which all terraces are reached."""
    found = [(hill, weights_of(hill, seed)) for hill in hills for seed in range(seeds)]
    return [(hill, weights) for hill, weights in found if first_unreached(hill, weights) is None]


def total(weights):
    return sum(number for _, number in weights)


def told(share):
    """How the package tells a fraction."""
    return (share.numerator, share.denominator)


def ticked(hill, weights, chances):
    """The chances of all waters one tick later."""
    found = {}
    for water, chance in chances.items():
        for deed, number in weights:
            left = plain.run(hill, water, (deed,))
            found[left] = found.get(left, 0) + chance * Fraction(number, total(weights))
    return found


def solved(rows):
    """The numbers that solve linear equations: rows of what stands before them, and the right side."""
    rows = [list(map(Fraction, row)) for row in rows]
    many = len(rows[0]) - 1
    for at in range(many):
        lead = next(k for k in range(at, len(rows)) if rows[k][at])
        rows[at], rows[lead] = rows[lead], rows[at]
        rows[at] = [number / rows[at][at] for number in rows[at]]
        for k, row in enumerate(rows):
            if k != at and row[at]:
                rows[k] = [one - row[at] * other for one, other in zip(row, rows[at])]
    return [row[-1] for row in rows[:many]]


def long_run(hill, weights):
    """The chances that do not change in a tick, from equations."""
    waters = plain.waters(hill)
    rows = [[1] * len(waters) + [1]]
    led = [ticked(hill, weights, {water: Fraction(1)}) for water in waters]
    for behind in waters[1:]:
        rows.append([led[at].get(behind, 0) - (water == behind) for at, water in enumerate(waters)] + [0])
    return dict(zip(waters, solved(rows)))


def covered(hill, weights, ticks):
    """The chances of the lots that were reached by the drawn deeds, behind some ticks."""
    found = {frozenset(): Fraction(1)}
    for _ in range(ticks):
        more = {}
        for lot, chance in found.items():
            for deed, number in weights:
                led = lot | frozenset(plain.reach(hill, deed))
                more[led] = more.get(led, 0) + chance * Fraction(number, total(weights))
        found = more
    return found


def wait_by_lots(hill, weights):
    """The mean wait as a sum over lots: each tick counts with the chance that the beginning is not forgotten."""
    found = Fraction(0)
    for many in range(hill[0]):
        for lot in combinations(range(hill[0]), many):
            within = sum(number for deed, number in weights if set(plain.reach(hill, deed)) <= set(lot))
            found -= (-1) ** (hill[0] - many) / (1 - Fraction(within, total(weights)))
    return found


class Weights(Case):
    def test_any_values(self):
        for good in [BOTH, COIN]:
            for thing in changed(good):
                self.same(is_weights(hill=STEP, thing=thing), are_weights(STEP, thing), thing)

    def test_edges(self):
        for number in (-1, 0, 1, 2, 999, 1000, 1001, True, None, "1", 10 ** 39):
            wanted = plain.is_int(number) and 1 <= number <= 1000
            self.same(is_weights(ONE, ((("pour", 0), number),)), wanted)
        self.same(is_weights(ONE, ()), False)
        self.same(is_weights(ONE, ((("open", 0), 1), (("open", 0), 2))), False)
        self.same(is_weights(ONE, ((("pour", 0), 1), (("open", 0), 2))), False)
        every = tuple((deed, 1000) for deed in sorted(plain.deeds((10, ()))))
        self.same(is_weights((10, ()), every), True)

    def test_errors_in_order(self):
        alone = [(long_chances, ()), (mean_wait, ())]
        for function, more in alone + [(long_share, (None,)), (after_ticks, ([], [])), (forgotten_by, ([],))]:
            for thing in THINGS:
                if not plain.is_hill(thing):
                    self.fails(BadHill, {"thing": thing}, function, thing, None, *more)
            for thing in [*changed(BOTH), ()]:
                if not are_weights(STEP, thing):
                    self.fails(BadWeights, {"thing": thing}, function, STEP, thing, *more)
        for thing in THINGS:
            if not plain.is_hill(thing):
                self.fails(BadHill, {"thing": thing}, is_weights, thing=None, hill=thing)


class Shares(Case):
    def test_against_the_sums(self):
        for hill in SMALL + FIVES + SIXES:
            for seed in range(6):
                weights = weights_of(hill, seed)
                for at in range(hill[0]):
                    reaching = [(deed[0], number) for deed, number in weights if at in plain.reach(hill, deed)]
                    if not reaching:
                        self.fails(Unreached, {"terrace": at}, long_share, hill, weights, at)
                        continue
                    pours = sum(number for sort, number in reaching if sort == "pour")
                    wanted = Fraction(pours, sum(number for _, number in reaching))
                    self.same(long_share(hill, weights, at), told(wanted))

    def test_shares_are_sums_of_long_chances(self):
        for hill, weights in cases(SMALL + FIVES, 5):
            chances = long_chances(hill, weights)
            for at in range(hill[0]):
                wet = sum(Fraction(*chance) for water, chance in chances if at in water)
                self.same(long_share(hill, weights, at), told(wet))

    def test_edges(self):
        self.same(long_share(ONE, ((("open", 0), 5),), 0), (0, 1))
        self.same(long_share(ONE, ((("pour", 0), 1000),), 0), (1, 1))
        self.same(long_share(ONE, ((("open", 0), 1000), (("pour", 0), 1)), 0), (1, 1001))
        # Another terrace that is not reached is of no matter.
        self.same(long_share((2, ()), HALF, 0), (3, 5))
        self.fails(Unreached, {"terrace": 1}, long_share, (2, ()), HALF, 1)

    def test_errors_in_order(self):
        for thing in THINGS:
            if not (plain.is_int(thing) and 0 <= thing < 2):
                self.fails(BadTerrace, {"thing": thing}, long_share, terrace=thing, weights=HALF, hill=(2, ()))


class LongChances(Case):
    def test_against_equations(self):
        for hill, weights in cases(SMALL + [(4, ()), (4, ((0, 1), (0, 2), (0, 3)))], 5):
            wanted = tuple((water, told(chance)) for water, chance in sorted(long_run(hill, weights).items()) if chance)
            self.same(long_chances(hill, weights), wanted, (hill, weights))

    def test_they_do_not_change_in_a_tick(self):
        for hill, weights in cases(FIVES + [SIXES[1]], 4):
            chances = {water: Fraction(*chance) for water, chance in long_chances(hill, weights)}
            self.assertEqual(sum(chances.values()), 1)
            self.assertEqual(ticked(hill, weights, chances), chances)

    def test_many_ticks_come_near(self):
        hill = (3, ((0, 2), (1, 2)))
        weights = tuple((deed, 5) for deed in sorted(plain.deeds(hill)))
        near = dict(long_chances(hill, weights))
        for water in plain.waters(hill):
            for left, chance in after_ticks(hill, weights, water, 12):
                apart = abs(Fraction(*chance) - Fraction(*near[left]))
                self.assertLessEqual(apart, 1 - Fraction(*forgotten_by(hill, weights, 12)))
                self.assertLess(apart, Fraction(1, 50))

    def test_edges(self):
        self.same(long_chances(ONE, ((("open", 0), 1),)), (((), (1, 1)),))
        self.same(long_chances(ONE, ((("pour", 0), 1000),)), (((0,), (1, 1)),))
        self.same(long_chances(ONE, COIN), (((), (1, 4)), ((0,), (3, 4))))

    def test_unreached(self):
        some = 0
        for hill in SMALL + FIVES:
            for seed in range(8):
                weights = weights_of(hill, seed)
                at = first_unreached(hill, weights)
                if at is not None:
                    some += 1
                    self.fails(Unreached, {"terrace": at}, long_chances, weights=weights, hill=hill)
                    self.fails(Unreached, {"terrace": at}, mean_wait, weights=weights, hill=hill)
        self.assertGreater(some, 4)
        self.fails(Unreached, {"terrace": 1}, mean_wait, (4, ()), ((("open", 0), 1), (("pour", 2), 1)))


class Forgetting(Case):
    def test_mean_wait_by_a_sum_over_lots(self):
        for hill, weights in cases(SMALL + FIVES + SIXES, 6):
            self.same(mean_wait(hill, weights), told(wait_by_lots(hill, weights)), (hill, weights))

    def test_mean_wait_by_its_ticks(self):
        # Summed up tick by tick it comes from below, and nearer and nearer.
        weights = ((("open", 0), 1), (("open", 1), 2), (("pour", 0), 1))
        sums = [sum(1 - Fraction(*forgotten_by((2, ()), weights, t)) for t in range(ticks)) for ticks in (10, 20, 60)]
        wanted = Fraction(*mean_wait((2, ()), weights))
        self.assertTrue(sums[0] < sums[1] < sums[2] < wanted < sums[2] + Fraction(1, 10 ** 9))

    def test_mean_wait_edges(self):
        self.same(mean_wait(ONE, COIN), (1, 1))
        self.same(mean_wait((2, ()), ((("open", 0), 1), (("pour", 1), 1))), (3, 1))
        self.same(mean_wait((2, ()), ((("open", 0), 1), (("pour", 1), 1000))), told(1000 + Fraction(1, 1000) + 1))
        self.same(mean_wait((6, ()), tuple((("open", at), 1) for at in range(6))), (147, 10))

    def test_forgotten_against_covered_lots(self):
        for hill in SMALL + FIVES[1:] + SIXES[1:]:
            for seed in range(4):
                weights = weights_of(hill, seed)
                for t in (0, 1, 2, 3, 5, 12):
                    wanted = covered(hill, weights, t).get(frozenset(range(hill[0])), Fraction(0))
                    self.same(forgotten_by(hill, weights, t), told(wanted), (hill, weights, t))

    def test_forgotten_edges(self):
        self.same([forgotten_by(ONE, COIN, t) for t in (0, 1, 100)], [(0, 1), (1, 1), (1, 1)])
        # A terrace that no deed reaches is never forgotten.
        self.same([forgotten_by((2, ()), HALF, t) for t in (0, 1, 100)], [(0, 1)] * 3)
        self.same(forgotten_by(STEP, BOTH, 100), told(1 - Fraction(1, 2 ** 99)))
        coins = tuple((("open", at), 1) for at in range(6))
        wanted = covered((6, ()), coins, 30)[frozenset(range(6))]
        self.same(forgotten_by((6, ()), coins, 30), told(wanted))

    def test_waters_differ_by_no_more(self):
        for hill, weights in cases(SMALL[::2], 2):
            for t in (1, 2, 4):
                most = 1 - Fraction(*forgotten_by(hill, weights, t))
                rows = [dict(after_ticks(hill, weights, water, t)) for water in plain.waters(hill)]
                for one, other in product(rows, repeat=2):
                    for left in plain.waters(hill):
                        apart = Fraction(*one.get(left, (0, 1))) - Fraction(*other.get(left, (0, 1)))
                        self.assertLessEqual(apart, most)

    def test_errors_in_order(self):
        for thing in THINGS:
            if not (plain.is_int(thing) and thing >= 0):
                self.fails(BadNumber, {"thing": thing}, forgotten_by, t=thing, weights=COIN, hill=ONE)


class Ticks(Case):
    def test_against_a_sum_tick_by_tick(self):
        for hill in SMALL + FIVES:
            for seed in range(3):
                weights = weights_of(hill, seed)
                for water in plain.waters(hill)[:: 1 if hill[0] < 4 else 7]:
                    chances = {water: Fraction(1)}
                    for t in range(13 if hill[0] < 4 else 5):
                        wanted = tuple((left, told(chance)) for left, chance in sorted(chances.items()))
                        if t in (0, 1, 2, 4, 12):
                            self.same(after_ticks(hill, weights, water, t), wanted, (hill, weights, water, t))
                        chances = ticked(hill, weights, chances)

    def test_edges(self):
        # Terraces that are not reached keep what they have.
        self.same(after_ticks((2, ()), HALF, (1,), 12), (((0, 1), (3, 5)), ((1,), (2, 5))))
        self.same(after_ticks((2, ()), HALF, (1,), 0), (((1,), (1, 1)),))
        self.same(after_ticks(ONE, ((("open", 0), 7),), (0,), 1), (((), (1, 1)),))
        found = after_ticks(FIVES[0], tuple((deed, 1000) for deed in sorted(plain.deeds(FIVES[0]))), (), 12)
        self.assertEqual(sum(Fraction(*chance) for _, chance in found), 1)
        self.assertEqual(len(found), 32)

    def test_errors_in_order(self):
        for thing in THINGS:
            if not plain.is_lot(2, thing) or not plain.is_lower(STEP, thing):
                self.fails(BadWater, {"thing": thing}, after_ticks, STEP, BOTH, thing, -1)
            if not (plain.is_int(thing) and thing >= 0):
                self.fails(BadNumber, {"thing": thing}, after_ticks, t=thing, water=(), weights=BOTH, hill=STEP)


class Fractions(Case):
    def test_without_a_common_divisor(self):
        for hill, weights in cases(SMALL + FIVES[:2], 4):
            shares = [chance for _, chance in long_chances(hill, weights)] + [mean_wait(hill, weights)]
            shares += [forgotten_by(hill, weights, t) for t in range(4)]
            shares += [long_share(hill, weights, at) for at in range(hill[0])]
            shares += [chance for _, chance in after_ticks(hill, weights, (), 3)]
            for top, bottom in shares:
                self.assertTrue(type(top) is int and type(bottom) is int and bottom > 0)
                self.assertEqual(gcd(top, bottom), 1)
