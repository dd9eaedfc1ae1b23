"""[9.1] heights, [9.2] levels, [9.3] tall hills."""

from pourdrains import heights
from pourdrains.errors import BadDeed, BadHeights, BadHill, BadNumber, BadScript
from pourdrains.hills import is_hill
from pourdrains.scripts import run
from tests import plain, plain_heights
from tests.same import Case
from tests.test_hills import FLAT_10, LINE_10, POND_10
from tests.test_lots import SOME_4
from tests.things import THINGS, changed

SMALL = plain.hills(1) + plain.hills(2) + plain.hills(3)[::3]
STEP = (2, ((0, 1),))
BROAD = [LINE_10, FLAT_10, POND_10]


def height_script(hill, h, many, stride):
    """A height script without any order in it, but the same each time."""
    every = plain_heights.height_deeds(hill, h)
    return tuple(every[(at * at * stride + 5 * at + stride) % len(every)] for at in range(many))


def some_heights(hill, h):
    """Heights behind scripts from dry and from full hills, on hills of any size."""
    first = [(0,) * hill[0], (h,) * hill[0]]
    return first + [plain_heights.run(hill, row, height_script(hill, h, 5, stride)) for row in first for stride in (1, 2)]


class Heights(Case):
    def test_any_values(self):
        for hill in [(1, ()), STEP, (3, ((0, 1), (1, 0), (2, 0), (2, 1)))]:
            for h in (1, 2, 4):
                for good in plain_heights.all_heights(hill, h)[:: 1 if hill[0] < 3 else 9]:
                    for thing in changed(good):
                        wanted = plain_heights.are_heights(hill, h, thing)
                        self.same(heights.are_heights(hill, h, thing), wanted, (hill, h, thing))

    def test_all_tuples(self):
        for hill in SMALL:
            for h in (1, 2, 3):
                for row in plain_heights.product(range(-1, h + 2), repeat=hill[0]):
                    wanted = plain_heights.are_heights(hill, h, row)
                    self.same(heights.are_heights(hill=hill, h=h, thing=row), wanted)

    def test_edges(self):
        self.same(heights.are_heights((1, ()), 4, (4,)), True)
        self.same(heights.are_heights((1, ()), 4, (5,)), False)
        self.same(heights.are_heights((1, ()), 1, (True,)), False)
        self.same([heights.are_heights(STEP, 4, row) for row in [(4, 4), (3, 4), (4, 3), (0, 0)]], [True, False, True, True])
        self.same(heights.are_heights(FLAT_10, 4, (4, 0) * 5), True)

    def test_heights_to_1_are_waters(self):
        for hill in SMALL + SOME_4:
            told = [tuple(int(at in water) for at in range(hill[0])) for water in plain.waters(hill)]
            found = [row for row in plain_heights.product((0, 1), repeat=hill[0]) if heights.are_heights(hill, 1, row)]
            self.assertEqual(sorted(told), found)


class HeightScripts(Case):
    def test_any_values(self):
        for hill in [(1, ()), STEP]:
            for h in (1, 2, 4):
                good = (("pour", 0, h), ("open", hill[0] - 1, 0))
                for thing in [*changed(good), (), *[(row,) for row in changed(good[0])]]:
                    wanted = plain_heights.is_height_script(hill[0], h, thing)
                    self.same(heights.is_height_script(hill, h, thing), wanted, (h, thing))

    def test_all_deeds(self):
        for h in (1, 2, 3, 4):
            for sort in ("pour", "open", "drain", ""):
                for x in range(-1, 4):
                    for c in range(-2, 7):
                        low, high = {"pour": (1, h), "open": (0, h - 1)}.get(sort, (1, 0))
                        wanted = 0 <= x < 3 and low <= c <= high
                        self.same(heights.is_height_script(h=h, hill=(3, ()), thing=((sort, x, c),)), wanted)

    def test_edges(self):
        self.same(heights.is_height_script((1, ()), 1, ()), True)
        self.same(heights.is_height_script(LINE_10, 4, height_script(LINE_10, 4, 16, 3)), True)
        self.same(heights.is_height_script(LINE_10, 4, [("pour", 0, 1)]), False)


class Runs(Case):
    def test_single_deeds(self):
        for hill in SMALL:
            for h in (1, 2, 3):
                for deed in plain_heights.height_deeds(hill, h):
                    for row in plain_heights.all_heights(hill, h):
                        left = plain_heights.run(hill, row, (deed,))
                        self.same(heights.run_heights(hill, h, row, (deed,)), left, (hill, row, deed))
                        self.assertTrue(plain_heights.are_heights(hill, h, left))

    def test_long_scripts(self):
        for hill in SMALL[::2] + SOME_4 + BROAD:
            for h in (1, 2, 4):
                for stride in range(1, 4):
                    script = height_script(hill, h, 16, stride)
                    for row in some_heights(hill, h):
                        wanted = plain_heights.run(hill, row, script)
                        self.same(heights.run_heights(hill, h, row, script), wanted, (hill, h, row, script))

    def test_edges(self):
        for h in (1, 4):
            self.same(heights.run_heights((1, ()), h, (h,), ()), (h,))
            self.same(heights.run_heights((1, ()), h, (0,), (("pour", 0, h),)), (h,))
            self.same(heights.run_heights((1, ()), h, (h,), (("open", 0, 0),)), (0,))
        # A pour lowers nothing, and an open raises nothing.
        self.same(heights.run_heights((1, ()), 4, (3,), (("pour", 0, 2),)), (3,))
        self.same(heights.run_heights((1, ()), 4, (1,), (("open", 0, 2),)), (1,))
        self.same(heights.run_heights(STEP, 4, (4, 3), (("open", 1, 1),)), (4, 1))
        self.same(heights.run_heights(STEP, 4, (2, 0), (("pour", 1, 3),)), (3, 3))

    def test_for_h_1_it_is_a_run(self):
        for hill in SMALL + SOME_4:
            for stride in range(1, 4):
                script = height_script(hill, 1, 6, stride)
                for water in plain.waters(hill):
                    row = tuple(int(at in water) for at in range(hill[0]))
                    left = heights.run_heights(hill, 1, row, script)
                    plainly = run(hill, water, tuple((sort, x) for sort, x, _ in script))
                    self.same(tuple(at for at in range(hill[0]) if left[at]), plainly)


class Levels(Case):
    def test_waters_at_levels(self):
        for hill in SMALL:
            for h in (1, 2, 4):
                for row in plain_heights.all_heights(hill, h):
                    ahead = range(hill[0])
                    for level in range(1, h + 1):
                        found = heights.water_at(hill, h, row, level)
                        self.same(found, plain_heights.water_at(row, level))
                        self.assertTrue(plain.is_lower(hill, found) and set(found) <= set(ahead))
                        ahead = found

    def test_scripts_at_levels(self):
        for hill in SMALL[::2] + BROAD:
            for h in (1, 2, 3, 4):
                for stride in range(1, 4):
                    script = height_script(hill, h, 16, stride)
                    for level in range(1, h + 1):
                        wanted = plain_heights.script_at(script, level)
                        self.same(heights.script_at(hill, h, script, level), wanted, (script, level))

    def test_level_by_level(self):
        for hill in SMALL + SOME_4 + BROAD:
            for h in (1, 2, 3, 4):
                for stride in range(1, 3):
                    script = height_script(hill, h, 9, stride)
                    for row in some_heights(hill, h):
                        left = heights.run_heights(hill, h, row, script)
                        for level in range(1, h + 1):
                            first = heights.water_at(hill, h, row, level)
                            told = heights.script_at(hill, h, script, level)
                            self.same(run(hill, first, told), heights.water_at(hill, h, left, level))

    def test_edges(self):
        every = (("pour", 0, 1), ("pour", 0, 4), ("open", 0, 0), ("open", 0, 3))
        self.same(heights.script_at((1, ()), 4, every, 1), (("pour", 0), ("pour", 0), ("open", 0)))
        self.same(heights.script_at((1, ()), 4, every, 4), (("pour", 0), ("open", 0), ("open", 0)))
        self.same(heights.script_at((1, ()), 1, (("pour", 0, 1), ("open", 0, 0)), 1), (("pour", 0), ("open", 0)))
        self.same(heights.script_at((1, ()), 4, (), 4), ())
        self.same([heights.water_at(STEP, 4, (4, 1), level) for level in (1, 2, 4)], [(0, 1), (0,), (0,)])
        self.same(heights.water_at(STEP, 4, (0, 0), 1), ())


class TallHills(Case):
    def test_against_the_words(self):
        for hill in SMALL + SOME_4 + BROAD:
            for h in (1, 2, 3, 4):
                found = heights.tall_hill(hill, h)
                self.same(found, plain_heights.tall_hill(hill, h), (hill, h))
                self.same(is_hill(found), hill[0] * h <= 10)

    def test_heights_are_its_waters(self):
        for hill in SMALL:
            for h in (1, 2, 3):
                tall = heights.tall_hill(hill, h)
                every = plain_heights.all_heights(hill, h)
                found = [heights.tall_water(hill, h, row) for row in every]
                self.same(found, [plain_heights.tall_water(h, row) for row in every])
                if tall[0] <= 6:
                    self.assertEqual(sorted(found), plain.waters(tall))

    def test_scripts_on_the_tall_hill(self):
        for hill, h in [((1, ()), 4), (STEP, 4), ((2, ((0, 1), (1, 0))), 3), ((3, ((0, 2), (1, 2))), 3), (LINE_10, 1)]:
            tall = heights.tall_hill(hill, h)
            for stride in range(1, 6):
                script = height_script(hill, h, 12, stride)
                deeds = tuple(heights.tall_deed(hill, h, deed) for deed in script)
                for row in some_heights(hill, h):
                    left = heights.run_heights(hill, h, row, script)
                    led = run(tall, heights.tall_water(hill, h, row), deeds)
                    self.same(led, heights.tall_water(hill, h, left), (hill, h, row, script))

    def test_deeds(self):
        for hill in [(1, ()), STEP, (3, ()), FLAT_10]:
            for h in (1, 2, 3, 4):
                for deed in plain_heights.height_deeds(hill, h):
                    self.same(heights.tall_deed(hill, h, deed), plain_heights.tall_deed(h, deed))

    def test_edges(self):
        self.same(heights.tall_hill(LINE_10, 1), LINE_10)
        self.same(heights.tall_hill((1, ()), 4), (4, ((0, 1), (0, 2), (0, 3), (1, 2), (1, 3), (2, 3))))
        self.same(heights.tall_hill((5, ()), 2), (10, ((0, 1), (2, 3), (4, 5), (6, 7), (8, 9))))
        self.same(heights.tall_water((5, ()), 2, (2, 0, 1, 2, 0)), (0, 1, 4, 6, 7))


class Errors(Case):
    def functions(self):
        """Each function with right arguments for STEP and h = 2, and what its arguments behind h are."""
        row, script = (2, 1), (("pour", 1, 2), ("open", 0, 0))
        return [
            (heights.are_heights, ["thing"], [row]),
            (heights.is_height_script, ["thing"], [script]),
            (heights.run_heights, ["heights", "script"], [row, script]),
            (heights.water_at, ["heights", "level"], [row, 2]),
            (heights.script_at, ["script", "level"], [script, 2]),
            (heights.tall_hill, [], []),
            (heights.tall_water, ["heights"], [row]),
            (heights.tall_deed, ["deed"], [script[0]]),
        ]

    def test_in_order(self):
        for function, names, right in self.functions():
            for thing in THINGS:
                if not plain.is_hill(thing):
                    self.fails(BadHill, {"thing": thing}, function, thing, None, *[[]] * len(names))
                if not (plain.is_int(thing) and 1 <= thing <= 4):
                    self.fails(BadNumber, {"thing": thing}, function, h=thing, hill=STEP, **{name: None for name in names})
            for at, name in enumerate(names):
                self.hold(function, names, right, at)

    def hold(self, function, names, right, at):
        wrong = {
            "heights": (BadHeights, lambda thing: plain_heights.are_heights(STEP, 2, thing)),
            "script": (BadScript, lambda thing: plain_heights.is_height_script(2, 2, thing)),
            "deed": (BadDeed, lambda thing: plain_heights.is_height_deed(2, 2, thing)),
            "level": (BadNumber, lambda thing: plain.is_int(thing) and 1 <= thing <= 2),
        }
        if names[at] == "thing":
            return
        error, is_right = wrong[names[at]]
        for thing in changed(right[at]):
            if not is_right(thing):
                things = right[:at] + [thing] + [None] * (len(right) - at - 1)
                self.fails(error, {"thing": thing}, function, STEP, 2, *things)
                self.fails(error, {"thing": thing}, function, **dict(zip(["hill", "h"] + names, [STEP, 2] + things)))

    def test_h_bounds_the_level_and_the_deeds(self):
        self.fails(BadNumber, {"thing": 3}, heights.water_at, STEP, 2, (2, 1), 3)
        self.fails(BadNumber, {"thing": 0}, heights.script_at, STEP, 2, (), 0)
        self.fails(BadNumber, {"thing": 5}, heights.script_at, STEP, 4, (), 5)
        self.fails(BadNumber, {"thing": 5}, heights.tall_hill, (1, ()), 5)
        self.fails(BadHeights, {"thing": (3, 0)}, heights.tall_water, STEP, 2, (3, 0))
        self.fails(BadDeed, {"thing": ("open", 0, 2)}, heights.tall_deed, STEP, 2, ("open", 0, 2))
        self.fails(BadDeed, {"thing": ("pour", 0, 0)}, heights.tall_deed, STEP, 2, ("pour", 0, 0))
