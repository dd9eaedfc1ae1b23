"""[10.1] grids, [10.2] single deeds on them."""

from itertools import combinations, product

from pourdrains import grids
from pourdrains.errors import BadPoint, BadWater
from tests import plain_grids
from tests.same import Case
from tests.things import THINGS, changed

GREAT = 10 ** 30
SMALL = {2: plain_grids.box(2, 2), 3: plain_grids.box(3, 1)}
# 20 tops of two directions, 8 of three.
STAIRS = tuple((at * GREAT // 20, (19 - at) * GREAT // 20) for at in range(20))
TENT = tuple(sorted([(0, 0, 9), (0, 9, 0), (9, 0, 0), (3, 3, 3), (1, 6, 2), (2, 1, 6), (6, 2, 1), (4, 4, 0)]))


def all_tops(d):
    """All tops of a small box."""
    found = []
    for many in range(4 if d == 2 else 5):
        found += [row for row in combinations(SMALL[d], many) if plain_grids.is_tops(d, row)]
    return found


def some_points(d, many, stride, most):
    """Points without any order in them, but the same each time."""

    def number(at, k):
        return pow(3, 90 + 7 * at + 1001 * k + 9176 * stride, 2 ** 127 - 1) % (most + 1)

    return tuple(tuple(number(at, k) for k in range(d)) for at in range(many))


def many_by_columns(tops):
    """How many points of two directions lie under tops, column by column, equal ones at once."""
    edges = sorted({top[0] for top in tops})
    found = 0
    for left, right in zip([-1] + edges, edges):
        found += (right - left) * (1 + max(top[1] for top in tops if top[0] >= right))
    return found


def many_by_shared(tops):
    """How many points lie under tops: what is under one, less what is under two, and so on."""
    found = 0
    for many in range(1, len(tops) + 1):
        for chosen in combinations(tops, many):
            inside = 1
            for parts in zip(*chosen):
                inside *= min(parts) + 1
            found += inside if many % 2 else -inside
    return found


class Points(Case):
    def test_any_values(self):
        for d in (2, 3):
            for good in [(0,) * d, (5, 0, GREAT)[:d], (10 ** 99,) * d, (1, 2), (1, 2, 3)]:
                for thing in changed(good):
                    self.same(grids.is_point(d, thing), plain_grids.is_point(d, thing), thing)

    def test_edges(self):
        self.same([grids.is_point(2, (0, 0)), grids.is_point(3, (0, 0)), grids.is_point(2, (0, 0, 0))], [True, False, False])
        self.same([grids.is_point(2, (0, -1)), grids.is_point(2, (True, 0)), grids.is_point(2, [0, 0])], [False] * 3)
        self.same(grids.is_point(thing=(0, 10 ** 99, 1), d=3), True)


class Tops(Case):
    def test_all_rows_of_points(self):
        for d in (2, 3):
            for many in range(4):
                for row in product(SMALL[d], repeat=many):
                    self.same(grids.is_tops(d, row), plain_grids.is_tops(d, row), row)

    def test_any_values(self):
        for d, good in [(2, ()), (2, ((0, 1), (1, 0))), (3, ((0, 2, 0), (1, 1, 1))), (2, ((0, GREAT),))]:
            for thing in changed(good):
                self.same(grids.is_tops(thing=thing, d=d), plain_grids.is_tops(d, thing), thing)

    def test_edges(self):
        self.same([grids.is_tops(2, ()), grids.is_tops(2, ((0, 0),)), grids.is_tops(3, ((GREAT,) * 3,))], [True] * 3)
        self.same([grids.is_tops(2, STAIRS), grids.is_tops(2, STAIRS[::-1]), grids.is_tops(3, TENT)], [True, False, True])
        self.same(grids.is_tops(2, ((0, 1), (0, 1))), False)
        self.same(grids.is_tops(2, ((0, 1), (1, 1))), False)

    def test_highest_and_lowest(self):
        for d in (2, 3):
            for many in range(3):
                for row in product(SMALL[d], repeat=many):
                    self.hold(d, row)
            for stride in range(1, 12):
                for many, most in [(8, 5), (20, 30), (20, GREAT)]:
                    self.hold(d, some_points(d, many, stride, most))

    def hold(self, d, row):
        self.same(grids.highest_points(d, row), plain_grids.tops_of(row), row)
        self.same(grids.lowest_points(points=row, d=d), plain_grids.feet_of(row), row)
        self.assertTrue(plain_grids.is_tops(d, grids.highest_points(d, row)))

    def test_the_same_points_lie_under_them(self):
        for d in (2, 3):
            every = plain_grids.box(d, 5)
            for stride in range(1, 9):
                row = some_points(d, 6, stride, 4)
                self.assertEqual(plain_grids.under(grids.highest_points(d, row), every), plain_grids.under(row, every))
                self.assertEqual(plain_grids.over(grids.lowest_points(d, row), every), plain_grids.over(row, every))

    def test_edges_of_highest_and_lowest(self):
        for function in (grids.highest_points, grids.lowest_points):
            self.same([function(2, ()), function(3, ())], [(), ()])
            self.same(function(2, ((5, 0),) * 20), ((5, 0),))
            self.same(function(2, STAIRS[::-1]), STAIRS)
            self.same(function(3, TENT), TENT)
        self.same(grids.highest_points(2, ((0, 0), (GREAT, GREAT))), ((GREAT, GREAT),))
        self.same(grids.lowest_points(2, ((0, 0), (GREAT, GREAT))), ((0, 0),))

    def test_first_item_that_is_no_point(self):
        for function in (grids.highest_points, grids.lowest_points):
            for thing in THINGS:
                if not plain_grids.is_point(2, thing):
                    self.fails(BadPoint, {"thing": thing}, function, 2, (thing,))
                    self.fails(BadPoint, {"thing": thing}, function, points=((0, 1), thing, None, (0,)), d=2)
            self.fails(BadPoint, {"thing": (0, 1)}, function, 3, ((0, 0, 0), (0, 1)))


class Deeds(Case):
    def hold(self, d, tops, point, every):
        wet = plain_grids.under(tops, every)
        for function, sort in [(grids.poured, "pour"), (grids.opened, "open")]:
            left = plain_grids.run(every, wet, ((sort, point),))
            self.same(function(d, tops, point), plain_grids.tops_of(left), (sort, tops, point))
        self.same(grids.is_wet(d, tops, point), point in wet)
        self.same(grids.many_wet(d, tops), len(wet))

    def test_small_tops(self):
        for d in (2, 3):
            for tops in all_tops(d):
                for point in SMALL[d]:
                    self.hold(d, tops, point, SMALL[d])

    def test_more_points(self):
        for d, most in [(2, 9), (3, 5)]:
            every = plain_grids.box(d, most)
            for stride in range(1, 14):
                points = some_points(d, 9, stride, most)
                self.hold(d, plain_grids.tops_of(points[1:]), points[0], every)

    def test_great_integers(self):
        for d in (2, 3):
            for stride in range(1, 8):
                for most in (60, GREAT):
                    points = some_points(d, 8, stride, most)
                    self.hold_at_points(d, plain_grids.tops_of(points[1:]), points[0])
        for point in [(0, 0), (GREAT, GREAT), (0, GREAT), (GREAT // 2, GREAT // 3), (GREAT // 4, 1)]:
            self.hold_at_points(2, STAIRS, point)
        for point in [(0, 0, 0), (1, 1, 1), (GREAT, 0, 0), (2, 2, 2), (0, 0, 1), (2, 3, 0)]:
            self.hold_at_points(3, TENT, point)

    def hold_at_points(self, d, tops, point):
        """As above, with points enough around the ends."""
        every = plain_grids.telling_points(d, (point,) + tops)
        wet = plain_grids.under(tops, every)
        for function, sort in [(grids.poured, "pour"), (grids.opened, "open")]:
            left = function(d, tops, point)
            self.assertTrue(plain_grids.is_tops(d, left))
            self.assertEqual(plain_grids.under(left, every), plain_grids.run(every, wet, ((sort, point),)))
        for at in every[::7]:
            self.same(grids.is_wet(d, tops, at), at in wet)

    def test_edges(self):
        for d in (2, 3):
            zero, far = (0,) * d, (GREAT,) * d
            self.same(grids.poured(d, (), zero), (zero,))
            self.same(grids.poured(d, (zero,), far), (far,))
            self.same(grids.opened(d, (), zero), ())
            self.same(grids.opened(d, (far,), zero), ())
            self.same(grids.opened(d, (zero,), far), (zero,))
            self.same([grids.is_wet(d, (), zero), grids.is_wet(d, (far,), far)], [False, True])
        self.same(grids.opened(2, ((GREAT, GREAT),), (GREAT, GREAT)), ((GREAT - 1, GREAT), (GREAT, GREAT - 1)))
        self.same(grids.opened(3, ((2, 2, 2),), (1, 0, 2)), ((0, 2, 2), (2, 2, 1)))


class ManyWet(Case):
    def test_columns_and_shared_points(self):
        for stride in range(1, 12):
            for most in (30, GREAT):
                tops = plain_grids.tops_of(some_points(2, 20, stride, most))
                self.same(grids.many_wet(2, tops), many_by_columns(tops), tops)
                tops = plain_grids.tops_of(some_points(3, 8, stride, most))
                self.same(grids.many_wet(3, tops), many_by_shared(tops), tops)

    def test_edges(self):
        self.same([grids.many_wet(2, ()), grids.many_wet(3, ())], [0, 0])
        self.same([grids.many_wet(2, ((0, 0),)), grids.many_wet(3, ((0, 0, 0),))], [1, 1])
        self.same(grids.many_wet(3, ((GREAT,) * 3,)), (GREAT + 1) ** 3)
        self.same(grids.many_wet(2, ((0, GREAT), (GREAT, 0))), 2 * GREAT + 1)
        self.same(grids.many_wet(2, STAIRS), many_by_columns(STAIRS))
        self.same(grids.many_wet(3, TENT), len(plain_grids.under(TENT, plain_grids.box(3, 9))))


class Errors(Case):
    def test_in_order(self):
        tops = ((0, 1), (1, 0))
        for thing in changed(tops):
            if not plain_grids.is_tops(2, thing):
                self.fails(BadWater, {"thing": thing}, grids.many_wet, tops=thing, d=2)
                for function in (grids.poured, grids.opened, grids.is_wet):
                    self.fails(BadWater, {"thing": thing}, function, 2, thing, None)
        for thing in changed((1, 2)):
            if not plain_grids.is_point(2, thing):
                for function in (grids.poured, grids.opened, grids.is_wet):
                    self.fails(BadPoint, {"thing": thing}, function, point=thing, tops=tops, d=2)

    def test_the_other_number_of_directions(self):
        for function in (grids.poured, grids.opened, grids.is_wet):
            self.fails(BadWater, {"thing": ((0, 0),)}, function, 3, ((0, 0),), (0, 0))
            self.fails(BadPoint, {"thing": (0, 0)}, function, 3, ((0, 0, 0),), (0, 0))
        self.fails(BadWater, {"thing": ((0, 0, 0),)}, grids.many_wet, 2, ((0, 0, 0),))
