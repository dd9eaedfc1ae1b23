"""[10.2] scripts and couples on grids, [10.3] rounds with a shift, [10.4] boxes."""

from pourdrains import staircases
from pourdrains.errors import BadCouple, BadNumber, BadPoint, BadScript, BadWater
from pourdrains.grids import is_wet
from pourdrains.hills import is_hill
from pourdrains.scripts import couple_of, couple_then, run
from tests import plain, plain_grids
from tests.same import Case
from tests.test_grids import GREAT, STAIRS, TENT, some_points
from tests.things import THINGS, changed

BOXES = [(2, 0), (2, 1), (2, 2), (3, 0), (3, 1)]


def grid_script(d, many, stride, most):
    """A script without any order in it, but the same each time."""
    points = some_points(d, many, stride, most)
    return tuple((("pour", "open")[(at * stride + at // 3) % 2], point) for at, point in enumerate(points))


def couples_of(d, stride, most):
    """Couples of scripts, some of them with no tops or no feet."""
    found = [((), ())]
    for many in (1, 2, 4, 6):
        found.append(staircases.grid_couple(d, grid_script(d, many, stride, most)))
    return found


class Scripts(Case):
    def test_any_values(self):
        for d, good in [(2, (("pour", (0, 5)), ("open", (1, 1)))), (3, (("open", (0, 0, GREAT)),)), (2, ())]:
            for thing in changed(good):
                self.same(staircases.is_grid_script(d, thing), plain_grids.is_script(d, thing), thing)

    def test_edges(self):
        for many in (0, 1, 8, 23, 24):
            self.same(staircases.is_grid_script(2, (("pour", (0, 0)),) * many), True)
        self.same(staircases.is_grid_script(d=2, thing=(("pour", (0, 0)),) * 25), False)
        self.same(staircases.is_grid_script(3, (("pour", (0, 0)),)), False)
        self.same(staircases.is_grid_script(2, (("drain", (0, 0)),)), False)
        self.same(staircases.is_grid_script(2, (("pour", (0, True)),)), False)


class Runs(Case):
    def test_against_sets_of_points(self):
        for d, most, many in [(2, 6, 24), (2, 12, 9), (3, 4, 8)]:
            every = plain_grids.box(d, most)
            for stride in range(1, 10):
                script = grid_script(d, many, stride, most)
                for tops in [(), plain_grids.tops_of(some_points(d, 5, stride + 1, most))]:
                    left = plain_grids.run(every, plain_grids.under(tops, every), script)
                    self.same(staircases.run_grid(d, tops, script), plain_grids.tops_of(left), (tops, script))

    def test_great_integers(self):
        for d, many in [(2, 24), (3, 8)]:
            for stride in (1, 4):
                script = grid_script(d, many, stride, GREAT)
                tops = STAIRS if d == 2 else TENT
                every = plain_grids.telling_points(d, tuple(at for _, at in script) + tops[::3])[:: 5 if d == 2 else 41]
                left = staircases.run_grid(d, tops, script)
                self.assertTrue(plain_grids.is_tops(d, left))
                wet = plain_grids.run(every, plain_grids.under(tops, every), script)
                self.assertEqual(plain_grids.under(left, every), wet)

    def test_edges(self):
        self.same(staircases.run_grid(2, (), ()), ())
        self.same(staircases.run_grid(2, STAIRS, ()), STAIRS)
        self.same(staircases.run_grid(3, TENT, (("open", (0, 0, 0)),)), ())
        self.same(staircases.run_grid(2, (), (("pour", (GREAT, GREAT)),) * 24), ((GREAT, GREAT),))

    def test_errors_in_order(self):
        for thing in changed(((0, 1), (1, 0))):
            if not plain_grids.is_tops(2, thing):
                self.fails(BadWater, {"thing": thing}, staircases.run_grid, 2, thing, None)
        for thing in changed((("pour", (0, 1)), ("open", (2, 2)))):
            if not plain_grids.is_script(2, thing):
                self.fails(BadScript, {"thing": thing}, staircases.run_grid, script=thing, tops=(), d=2)
                self.fails(BadScript, {"thing": thing}, staircases.grid_couple, script=thing, d=2)


class Couples(Case):
    def hold(self, d, script, every):
        tops, feet = staircases.grid_couple(d, script)
        self.assertTrue(plain_grids.is_couple(d, (tops, feet)), script)
        wet, dry = plain_grids.couple(every, script)
        self.assertEqual(plain_grids.under(tops, every), wet, script)
        self.assertEqual(plain_grids.over(feet, every), dry, script)

    def test_short_scripts(self):
        every = {2: plain_grids.box(2, 4), 3: plain_grids.box(3, 3)}
        deeds = {d: [(sort, at) for sort in ("pour", "open") for at in plain_grids.box(d, 4 - d)] for d in (2, 3)}
        for d in (2, 3):
            for one in deeds[d]:
                for other in deeds[d]:
                    self.hold(d, (one, other), every[d])

    def test_longer_scripts(self):
        for d, most, many in [(2, 7, 24), (2, 20, 12), (3, 4, 8)]:
            every = plain_grids.box(d, most + 2)
            for stride in range(1, 10):
                self.hold(d, grid_script(d, many, stride, most), every)

    def test_exact_tops_and_feet(self):
        every = plain_grids.box(2, 9)
        for stride in range(1, 20):
            script = grid_script(2, 10, stride, 7)
            wet, dry = plain_grids.couple(every, script)
            wanted = (plain_grids.tops_of(wet), plain_grids.feet_of(dry))
            self.same(staircases.grid_couple(2, script), wanted, script)

    def test_great_integers(self):
        for d, many, stride in [(2, 24, 1), (2, 24, 5), (3, 8, 2), (3, 8, 3)]:
            script = grid_script(d, many, stride, GREAT)
            every = plain_grids.telling_points(d, [at for _, at in script])[:: 3 if d == 2 else 11]
            self.hold(d, script, every)

    def test_edges(self):
        for d in (2, 3):
            zero, far = (0,) * d, (GREAT,) * d
            self.same(staircases.grid_couple(d, ()), ((), ()))
            self.same(staircases.grid_couple(d, (("pour", far),)), ((far,), ()))
            self.same(staircases.grid_couple(d, (("pour", far), ("open", zero))), ((), (zero,)))
        self.same(staircases.grid_couple(2, (("open", (0, 0)), ("pour", (GREAT, 3)))), (((GREAT, 3),), ((0, 4), (GREAT + 1, 0))))
        self.same(staircases.grid_couple(3, (("open", (1, 1, 1)), ("pour", (1, 1, 1)))), (
            ((1, 1, 1),), ((1, 1, 2), (1, 2, 1), (2, 1, 1)),
        ))  # fmt: skip


class Behind(Case):
    def test_couples_of_both_scripts(self):
        for d, most, many in [(2, 6, 12), (2, GREAT, 12), (3, 4, 4), (3, GREAT, 4)]:
            for stride in range(1, 8):
                first, second = grid_script(d, many, stride, most), grid_script(d, many, stride + 3, most)
                one, other = staircases.grid_couple(d, first), staircases.grid_couple(d, second)
                wanted = staircases.grid_couple(d, first + second)
                self.same(staircases.behind_grid(d, one, other), wanted, (first, second))

    def test_nothing_behind_and_ahead(self):
        for d in (2, 3):
            for stride in range(1, 5):
                for couple in couples_of(d, stride, 9):
                    self.same(staircases.behind_grid(d, couple, ((), ())), couple)
                    self.same(staircases.behind_grid(first=((), ()), second=couple, d=d), couple)
                    self.same(staircases.behind_grid(d, couple, couple), couple)

    def test_water_is_run_as_told(self):
        for d in (2, 3):
            for stride in range(1, 6):
                script = grid_script(d, 6, stride, 6)
                tops = plain_grids.tops_of(some_points(d, 5, stride, 7))
                wet = staircases.behind_grid(d, (tops, ()), staircases.grid_couple(d, script))[0]
                self.same(wet, staircases.run_grid(d, tops, script))

    def test_edges(self):
        stairs = STAIRS, ((GREAT, GREAT),)
        self.same(staircases.behind_grid(2, stairs, ((), ((0, 0),))), ((), ((0, 0),)))
        self.same(staircases.behind_grid(2, ((), STAIRS), (((GREAT, GREAT),), ())), (((GREAT, GREAT),), (
            (0, GREAT + 1), (GREAT + 1, 0),
        )))  # fmt: skip
        self.same(staircases.behind_grid(3, (TENT, ()), ((), TENT))[1], TENT)
        self.same(staircases.behind_grid(3, ((), TENT), (TENT, ()))[0], TENT)

    def test_great_couples(self):
        """20 tops and 20 feet, 8 of each for d = 3, held against points around them."""
        above = tuple((a + 1 + at, b + GREAT // 19) for at, (a, b) in enumerate(STAIRS))
        for d, tops, feet in [(2, STAIRS, above), (3, TENT, tuple((a + 2, b + 3, c + 1) for a, b, c in TENT))]:
            clear = tuple(foot for foot in feet if not any(plain_grids.leq(foot, top) for top in tops))
            middle = ((GREAT // 2,) * d,) if d == 2 else ((2, 2, 2),)
            for one, other in [((tops, clear), ((), middle)), ((tops, clear), (middle, ())), (((), feet), (tops, ()))]:
                self.hold(d, one, other)

    def hold(self, d, one, other):
        every = plain_grids.telling_points(d, one[0] + one[1] + other[0] + other[1])[:: 7 if d == 2 else 3]
        wet, dry = plain_grids.under(one[0], every), plain_grids.over(one[1], every)
        more, less = plain_grids.under(other[0], every), plain_grids.over(other[1], every)
        tops, feet = staircases.behind_grid(d, one, other)
        self.assertTrue(plain_grids.is_couple(d, (tops, feet)))
        self.assertEqual(plain_grids.under(tops, every), (wet - less) | more)
        self.assertEqual(plain_grids.over(feet, every), (dry - more) | less)

    def test_errors_in_order(self):
        good = (((0, 1), (1, 0)), ((1, 1), (3, 0)))
        self.same(plain_grids.is_couple(2, good), True)
        for thing in changed(good):
            if not plain_grids.is_couple(2, thing):
                self.fails(BadCouple, {"thing": thing}, staircases.behind_grid, 2, thing, None)
                self.fails(BadCouple, {"thing": thing}, staircases.behind_grid, second=thing, first=good, d=2)
            else:
                staircases.behind_grid(2, thing, good)
        shared = (((1, 1),), ((1, 1),))
        self.fails(BadCouple, {"thing": shared}, staircases.behind_grid, 2, shared, good)
        self.fails(BadCouple, {"thing": good}, staircases.behind_grid, 3, good, good)


class Rounds(Case):
    def hold(self, d, script, shift, n):
        wanted = staircases_of_rounds(d, plain_grids.rounds(script, shift, n))
        self.same(staircases.rounds_couple(d, script, shift, n), wanted, (script, shift, n))

    def test_against_rounds_written_out(self):
        for d, many, most in [(2, 6, 7), (2, 4, GREAT), (3, 2, 3)]:
            for stride in range(1, 8):
                for shift in [(0, 0, 0), (1, 0, 0), (0, 2, 1), (1, 1, 1), (3, 1, 0)]:
                    for n in (1, 2, 3, 4):
                        script = grid_script(d, many, stride, most)
                        self.hold(d, script, shift[:d], n)

    def test_against_points(self):
        for d, many, most, n in [(2, 5, 4, 4), (3, 3, 2, 3)]:
            every = plain_grids.box(d, most + 2 * n + 1)
            for stride in range(1, 8):
                script = grid_script(d, many, stride, most)
                for shift in [(1, 0, 2), (2, 1, 0), (0, 1, 1)]:
                    tops, feet = staircases.rounds_couple(d, script, shift[:d], n)
                    wet, dry = plain_grids.couple(every, plain_grids.rounds(script, shift[:d], n))
                    self.assertEqual(plain_grids.under(tops, every), wet)
                    self.assertEqual(plain_grids.over(feet, every), dry)

    def test_24_deeds(self):
        for stride in range(1, 4):
            self.hold(2, grid_script(2, 24, stride, 30), (2, 3), 3)
            self.hold(3, grid_script(3, 8, stride, 5), (1, 0, 2), 3)

    def test_one_round(self):
        for d in (2, 3):
            for stride in range(1, 8):
                script = grid_script(d, 8, stride, 9)
                for shift in [(0,) * d, (GREAT,) * d]:
                    wanted = staircases.grid_couple(d, script)
                    self.same(staircases.rounds_couple(d=d, script=script, shift=shift, n=1), wanted)

    def test_a_shift_of_nothing(self):
        for d in (2, 3):
            for stride in range(1, 8):
                script = grid_script(d, 7, stride, 9)
                for n in (2, GREAT):
                    wanted = staircases.grid_couple(d, script)
                    self.same(staircases.rounds_couple(d, script, (0,) * d, n), wanted)

    def test_great_numbers_of_rounds(self):
        """Far away nothing new comes: what is moved by nothing in one direction is told by few rounds there."""
        script = (("pour", (0, 0)), ("open", (1, 1)))
        self.same(staircases.rounds_couple(2, script, (1, 0), GREAT), (((GREAT - 1, 0),), ((1, 1),)))
        self.same(staircases.rounds_couple(2, (), (GREAT, GREAT), GREAT), ((), ()))
        far = (GREAT - 1) * GREAT
        self.same(staircases.rounds_couple(2, (("pour", (GREAT, 1)),), (GREAT, 0), GREAT), (((GREAT + far, 1),), ()))
        self.same(staircases.rounds_couple(3, (("open", (5, 6, 7)),), (0, 1, GREAT), GREAT), ((), ((5, 6, 7),)))

    def test_scaled_rounds(self):
        """Rounds by a great shift are told apart as rounds by a small one are."""
        script = (("open", (0, 2)), ("pour", (3, 1)), ("open", (2, 0)))
        for n in (2, 3, 7, GREAT):
            tops, feet = staircases.rounds_couple(2, script, (2, 1), n)
            last = plain_grids.moved(script, (2, 1), n - 1)
            points = plain_grids.telling_points(2, [at for _, at in script + last])
            for point in points:
                sort = plain_grids.last_sort(script if n == 1 else script + last, point)
                self.assertEqual(is_wet(2, tops, point), sort == "pour", (n, point))
                self.assertEqual(any(plain_grids.leq(foot, point) for foot in feet), sort == "open", (n, point))

    def test_errors_in_order(self):
        script = (("pour", (0, 1)), ("open", (2, 2)))
        for thing in changed(script):
            if not plain_grids.is_script(2, thing):
                self.fails(BadScript, {"thing": thing}, staircases.rounds_couple, 2, thing, None, 0)
        for thing in [*changed((0, 1)), (0, -1), (0, 1, 2)]:
            if not plain_grids.is_point(2, thing):
                self.fails(BadPoint, {"thing": thing}, staircases.rounds_couple, 2, script, thing, 0)
        for thing in [*THINGS, GREAT + 1, -GREAT, 10 ** 99]:
            if not (plain.is_int(thing) and 1 <= thing <= GREAT):
                self.fails(BadNumber, {"thing": thing}, staircases.rounds_couple, n=thing, shift=(0, 0), script=(), d=2)


def staircases_of_rounds(d, script):
    """The couple of a script of any length, by couples of its deeds one behind the other."""
    found = ((), ())
    for deed in script:
        found = staircases.behind_grid(d, found, staircases.grid_couple(d, (deed,)))
    return found


class Boxes(Case):
    def test_against_the_words(self):
        for d, b in BOXES:
            hill, points = staircases.box_of(d, b)
            self.same(points, tuple(plain_grids.box(d, b)))
            self.assertTrue(is_hill(hill) and hill[0] == len(points))
            pairs = [(i, j) for i, p in enumerate(points) for j, q in enumerate(points) if p != q and plain_grids.leq(p, q)]
            self.same(hill[1], tuple(pairs))

    def test_scripts_do_there_what_they_do_on_the_grid(self):
        for d, b in BOXES:
            hill, points = staircases.box_of(d, b)
            for stride in range(1, 12):
                script = grid_script(d, 8, stride, b)
                told = tuple((sort, points.index(at)) for sort, at in script)
                for water in plain.waters(hill):
                    tops = plain_grids.tops_of([points[at] for at in water])
                    left = staircases.run_grid(d, tops, script)
                    wet = tuple(at for at, point in enumerate(points) if is_wet(d, left, point))
                    self.same(run(hill, water, told), wet)
                self.same(couple_of(hill, told), self.in_box(points, staircases.grid_couple(d, script)))

    def in_box(self, points, couple):
        wet, dry = plain_grids.under(couple[0], points), plain_grids.over(couple[1], points)
        return tuple(tuple(at for at, point in enumerate(points) if point in lot) for lot in (wet, dry))

    def test_couples_there(self):
        for d, b in BOXES:
            hill, points = staircases.box_of(d, b)
            for stride in range(1, 8):
                one, other = [staircases.grid_couple(d, grid_script(d, 4, stride + k, b)) for k in (0, 2)]
                both = staircases.behind_grid(d, one, other)
                told = couple_then(hill, self.in_box(points, one), self.in_box(points, other))
                self.same(told, self.in_box(points, both))

    def test_edges(self):
        self.same(staircases.box_of(2, 0), ((1, ()), ((0, 0),)))
        self.same(staircases.box_of(b=0, d=3), ((1, ()), ((0, 0, 0),)))
        self.same([staircases.box_of(2, 2)[0][0], staircases.box_of(3, 1)[0][0]], [9, 8])

    def test_wrong_numbers(self):
        for d in (2, 3):
            for thing in [*THINGS, 4, 5, 10 ** 99]:
                if not (plain.is_int(thing) and thing >= 0 and (thing + 1) ** d <= 10):
                    self.fails(BadNumber, {"thing": thing}, staircases.box_of, d, thing)
        self.fails(BadNumber, {"thing": 3}, staircases.box_of, b=3, d=2)
        self.fails(BadNumber, {"thing": 2}, staircases.box_of, b=2, d=3)
