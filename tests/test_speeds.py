"""[8.4] speeds: convex lots, the values and their integers, the sums on the diagonal."""

from fractions import Fraction

from pourdrains.errors import BadHill, BadNumber, BadWeights
from pourdrains.speeds import convex_lots, speeds, trace_of
from tests import plain
from tests.same import Case
from tests.test_chances import BOTH, COIN, FIVES, HALF, ONE, SIXES, SMALL, STEP, are_weights, told, total, weights_of
from tests.things import THINGS, changed

FOURS = [(4, ()), (4, ((0, 1), (0, 2), (0, 3), (1, 3), (2, 3))), (4, ((0, 1), (1, 0), (2, 3)))]
LINE_6 = (6, tuple((a, b) for a in range(6) for b in range(a + 1, 6)))
POND_6 = (6, tuple((a, b) for a in range(6) for b in range(6) if a != b))


def is_convex(hill, lot):
    for at in range(hill[0]):
        if any(plain.leq(hill, a, at) for a in lot) and any(plain.leq(hill, at, b) for b in lot) and at not in lot:
            return False
    return True


def lower_within(hill, lot):
    """The lots within a lot that have, with each of their terraces, all of the lot that lie below it."""
    found = []
    for part in plain.lots(hill[0]):
        if set(part) <= set(lot) and all(a in part for b in part for a in lot if plain.leq(hill, a, b)):
            found.append(part)
    return found


def numbers_of_rests(hill):
    """The integers m(X) by the words, each rest X as a frozenset, the greatest ones first."""
    every = frozenset(range(hill[0]))
    rests = [(every - set(lot), len(lower_within(hill, lot))) for lot in plain.lots(hill[0]) if is_convex(hill, lot)]
    found = {}
    for rest, many in sorted(rests, key=lambda row: -len(row[0])):
        found[rest] = many - sum(number for further, number in found.items() if further > rest)
    return found


def share_within(hill, weights, rest):
    """s(X): what is drawn within a rest."""
    return Fraction(sum(number for deed, number in weights if set(plain.reach(hill, deed)) <= rest), total(weights))


def speeds_by_words(hill, weights):
    found = {}
    for rest, number in numbers_of_rests(hill).items():
        share = share_within(hill, weights, rest)
        found[share] = found.get(share, 0) + number
    return tuple((told(share), number) for share, number in sorted(found.items()) if number)


def table_of(hill, weights):
    """The walk as a table, with fractions."""
    waters = plain.waters(hill)
    rows = []
    for water in waters:
        row = [Fraction(0)] * len(waters)
        for deed, number in weights:
            row[waters.index(plain.run(hill, water, (deed,)))] += Fraction(number, total(weights))
        rows.append(row)
    return rows


def traces(hill, weights, most):
    """The sums on the diagonal of the powers from the 0-th one to the one at most, multiplied out."""
    table = table_of(hill, weights)
    places = range(len(table))
    power = [[Fraction(i == j) for j in places] for i in places]
    found = []
    for _ in range(most + 1):
        found.append(sum(power[i][i] for i in places))
        # Few entries of the table are above zero.
        led = [[(j, table[i][j]) for j in places if table[i][j]] for i in places]
        more = []
        for row in power:
            line = [Fraction(0)] * len(table)
            for i, number in enumerate(row):
                if number:
                    for j, share in led[i]:
                        line[j] += number * share
            more.append(line)
        power = more
    return found


class ConvexLots(Case):
    def test_against_all_lots(self):
        for hill in plain.small_hills() + FOURS + FIVES + SIXES + [LINE_6, POND_6]:
            wanted = tuple(lot for lot in plain.lots(hill[0]) if is_convex(hill, lot))
            self.same(convex_lots(hill), wanted, hill)
            self.assertTrue(wanted[0] == () and tuple(range(hill[0])) in wanted)

    def test_edges(self):
        self.same(convex_lots(ONE), ((), (0,)))
        self.same(convex_lots(POND_6), ((), tuple(range(6))))
        self.same(len(convex_lots((6, ()))), 64)
        self.same(len(convex_lots(LINE_6)), 22)
        # Lower lots and upper lots are convex, and a lot with a gap is not.
        found = convex_lots((3, ((0, 1), (0, 2), (1, 2))))
        self.assertTrue((0, 1) in found and (1, 2) in found and (0, 2) not in found)

    def test_errors(self):
        for thing in THINGS:
            if not plain.is_hill(thing):
                self.fails(BadHill, {"thing": thing}, convex_lots, hill=thing)


class Speeds(Case):
    def test_against_the_words(self):
        for hill in plain.small_hills() + FOURS + FIVES + SIXES + [LINE_6, POND_6]:
            for seed in range(2 if hill[0] > 4 else 4):
                weights = weights_of(hill, seed)
                self.same(speeds(hill, weights), speeds_by_words(hill, weights), (hill, weights))

    def test_they_ascend_and_none_is_zero(self):
        for hill in SMALL + FOURS + FIVES + SIXES:
            found = speeds(hill, weights_of(hill, 5))
            values = [Fraction(*value) for value, _ in found]
            self.assertEqual(values, sorted(set(values)))
            self.assertTrue(all(number > 0 for _, number in found))
            self.assertEqual(sum(number for _, number in found), len(plain.waters(hill)))
            # The greatest one is 1, that of the whole walk.
            self.assertEqual(found[-1][0], (1, 1))

    def test_integers_of_rests_are_none_below_zero(self):
        for hill in plain.small_hills() + FOURS + SIXES:
            self.assertGreaterEqual(min(numbers_of_rests(hill).values()), 0)

    def test_edges(self):
        self.same(speeds(ONE, COIN), (((0, 1), 1), ((1, 1), 1)))
        self.same(speeds(ONE, ((("pour", 0), 1000),)), (((0, 1), 1), ((1, 1), 1)))
        # A terrace that no deed reaches stays as it is: two waters that are left for ever.
        self.same(speeds((2, ()), HALF), (((0, 1), 2), ((1, 1), 2)))
        self.same(speeds(POND_6, ((("open", 3), 1), (("pour", 4), 1))), (((0, 1), 1), ((1, 1), 1)))
        self.same(speeds((2, ()), ((("open", 0), 1), (("pour", 1), 1000))), (
            ((0, 1), 1), ((1, 1001), 1), ((1000, 1001), 1), ((1, 1), 1),
        ))  # fmt: skip
        coins = tuple((("pour", at), 1) for at in range(6))
        self.same(speeds((6, ()), coins)[1:3], (((1, 6), 6), ((1, 3), 15)))

    def test_errors_in_order(self):
        for thing in THINGS:
            if not plain.is_hill(thing):
                self.fails(BadHill, {"thing": thing}, speeds, thing, None)
        for thing in [*changed(BOTH), ()]:
            if not are_weights(STEP, thing):
                self.fails(BadWeights, {"thing": thing}, speeds, weights=thing, hill=STEP)


class Traces(Case):
    def hold(self, hill, weights, most):
        for t, wanted in enumerate(traces(hill, weights, most)):
            self.same(trace_of(hill, weights, t), told(wanted), (hill, weights, t))

    def test_against_the_table(self):
        for hill in plain.small_hills() + FOURS:
            for seed in range(3):
                self.hold(hill, weights_of(hill, seed), 12 if seed < 2 else 4)

    def test_five_terraces(self):
        for hill in FIVES:
            self.hold(hill, weights_of(hill, 1), 5)
        self.hold(FIVES[1], weights_of(FIVES[1], 2), 12)

    def test_speeds_tell_the_traces(self):
        for hill in SMALL + FOURS:
            weights = weights_of(hill, 7)
            found = speeds(hill, weights)
            for t, wanted in enumerate(traces(hill, weights, 6)):
                self.assertEqual(sum(number * Fraction(*value) ** t for value, number in found), wanted)

    def test_edges(self):
        # The table's 0-th power has 1 on its diagonal, for each water.
        for hill in SMALL + FIVES:
            self.same(trace_of(hill, weights_of(hill, 3), 0), (len(plain.waters(hill)), 1))
        self.same([trace_of(ONE, COIN, t) for t in (0, 1, 12)], [(2, 1), (1, 1), (1, 1)])
        self.same(trace_of(STEP, BOTH, 12), told(1 + 2 * Fraction(1, 2 ** 12)))
        self.same(trace_of(ONE, ((("open", 0), 1000),), 12), (1, 1))

    def test_errors_in_order(self):
        for thing in THINGS:
            if not plain.is_hill(thing):
                self.fails(BadHill, {"thing": thing}, trace_of, thing, None, -1)
            if not (plain.is_int(thing) and thing >= 0):
                self.fails(BadNumber, {"thing": thing}, trace_of, t=thing, weights=COIN, hill=ONE)
        for thing in [*changed(BOTH), ()]:
            if not are_weights(STEP, thing):
                self.fails(BadWeights, {"thing": thing}, trace_of, STEP, thing, None)
