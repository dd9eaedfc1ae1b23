"""[2.1] deeds and scripts, [2.2] doing scripts, [2.3] couples."""

from itertools import product

from pourdrains import scripts
from pourdrains.hills import beside, mirror
from tests import plain
from tests.same import Case
from tests.test_hills import FLAT_10, LINE_10, POND_10
from tests.test_lots import SOME_4, line
from tests.things import changed

SMALL = plain.small_hills()
WAVE = (("pour", 1), ("open", 0), ("pour", 0), ("open", 1))


def long_script(hill, many, stride):
    """A script without any order in it, but the same each time."""
    every = plain.deeds(hill)
    return tuple(every[(at * at * stride + 3 * at + stride) % len(every)] for at in range(many))


class Deeds(Case):
    def test_any_values(self):
        for hill in [(1, ()), (3, ((0, 1),))]:
            for thing in changed(("pour", 0)):
                self.same(scripts.is_deed(hill, thing), plain.is_deed(hill[0], thing), thing)
                self.same(scripts.is_script(hill, thing), plain.is_script(hill[0], thing), thing)
            for thing in changed((("pour", 0), ("open", 0))):
                self.same(scripts.is_script(hill=hill, thing=thing), plain.is_script(hill[0], thing), thing)

    def test_all_deeds(self):
        for hill in SMALL + [LINE_10]:
            for at in range(-1, 12):
                for sort in ("pour", "open", "drain", "Pour", ""):
                    wanted = sort in ("pour", "open") and 0 <= at < hill[0]
                    self.same(scripts.is_deed(hill=hill, thing=(sort, at)), wanted)

    def test_scripts(self):
        self.same(scripts.is_script((1, ()), ()), True)
        self.same(scripts.is_script(LINE_10, long_script(LINE_10, 60, 7)), True)

    def test_reach(self):
        for hill in SMALL + SOME_4 + [LINE_10, FLAT_10, POND_10]:
            for deed in plain.deeds(hill):
                self.same(scripts.reach(hill, deed), plain.reach(hill, deed), (hill, deed))


class Runs(Case):
    def test_all_short_scripts(self):
        for hill in plain.hills(2) + plain.hills(3)[::3]:
            for script in plain.scripts_of(hill, 2):
                for water in plain.waters(hill):
                    left = plain.run(hill, water, script)
                    self.same(scripts.run(hill, water, script), left)
                    self.assertTrue(plain.is_lower(hill, left))

    def test_long_scripts(self):
        for hill in SMALL + SOME_4 + [LINE_10, FLAT_10, POND_10, mirror(LINE_10)]:
            for stride in range(1, 6):
                script = long_script(hill, 60, stride)
                for water in plain.waters(hill)[::9]:
                    self.same(scripts.run(hill, water, script), plain.run(hill, water, script))

    def test_water_runs_down_and_drains_up(self):
        hill = line(3)
        self.same(scripts.run(hill, (), (("pour", 1),)), (0, 1))
        self.same(scripts.run(hill, (0, 1, 2), (("open", 1),)), (0,))

    def test_is_water(self):
        for hill in SMALL:
            good = [repr(water) for water in plain.waters(hill)]
            for thing in changed(tuple(range(hill[0]))):
                self.same(scripts.is_water(hill, thing), repr(thing) in good, (hill, thing))


class Couples(Case):
    def test_any_values(self):
        for hill in [(1, ()), (2, ((0, 1),)), (3, ((0, 1), (1, 0)))]:
            good = [repr(couple) for couple in plain.couples(hill)]
            for couple in plain.couples(hill):
                for thing in changed(couple):
                    self.same(scripts.is_couple(hill, thing), repr(thing) in good, (hill, thing))

    def test_all_pairs_of_lots(self):
        for hill in SMALL:
            good = plain.couples(hill)
            for thing in product(plain.lots(hill[0]), repeat=2):
                self.same(scripts.is_couple(hill=hill, thing=thing), thing in good)

    def test_of_scripts(self):
        for hill in plain.hills(2) + plain.hills(3)[::3]:
            for script in plain.scripts_of(hill, 2) + [WAVE, ()]:
                self.same(scripts.couple_of(hill, script), plain.couple_of(hill, script))
        for hill in SMALL + SOME_4 + [LINE_10, FLAT_10, POND_10]:
            script = long_script(hill, 60, 5)
            self.same(scripts.couple_of(hill, script), plain.couple_of(hill, script))
            self.same(scripts.couple_of(hill, ()), ((), ()))

    def test_last_reaching(self):
        for hill in SMALL + [LINE_10, POND_10]:
            for script in [(), WAVE[:1] if hill[0] > 1 else (), long_script(hill, 7, 3), long_script(hill, 60, 2)]:
                for at in range(hill[0]):
                    wanted = plain.last_reaching(hill, script, at)
                    self.same(scripts.last_reaching(hill, script, at), wanted)

    def test_a_script_leaves_what_its_couple_leaves(self):
        for hill in SMALL + SOME_4:
            for stride in range(1, 5):
                script = long_script(hill, 5, stride)
                couple = scripts.couple_of(hill, script)
                for water in plain.waters(hill):
                    left = scripts.run(hill, water, script)
                    self.same(scripts.done_to(hill, couple, water), left)
                    self.same(scripts.run(hill, water, script + script), left)

    def test_done_to(self):
        for hill in SMALL:
            for couple in plain.couples(hill):
                for water in plain.waters(hill):
                    self.same(scripts.done_to(hill, couple, water), plain.done_to(couple, water))

    def test_one_and_then_another(self):
        for hill in SMALL:
            every = plain.couples(hill)
            for one, other in product(every, every):
                both = plain.then(one, other)
                self.same(scripts.couple_then(hill, one, other), both)
                self.assertIn(both, every)

    def test_scripts_one_behind_the_other(self):
        for hill in SMALL + SOME_4 + [LINE_10]:
            first, second = long_script(hill, 4, 3), long_script(hill, 5, 2)
            one, other = scripts.couple_of(hill, first), scripts.couple_of(hill, second)
            self.same(scripts.couple_then(hill, one, other), scripts.couple_of(hill, first + second))

    def test_nothing_and_then(self):
        for hill in SMALL:
            for couple in plain.couples(hill):
                self.same(scripts.couple_then(hill, ((), ()), couple), couple)
                self.same(scripts.couple_then(hill, couple, ((), ())), couple)
                self.same(scripts.couple_then(hill, couple, couple), couple)

    def test_script_of(self):
        for hill in SMALL + SOME_4 + [LINE_10, POND_10]:
            for couple in plain.couples(hill):
                script = scripts.script_of(hill, couple)
                self.assertTrue(plain.is_script(hill[0], script))
                self.assertLessEqual(len(script), 60)
                self.same(plain.couple_of(hill, script), couple)
        self.same(scripts.script_of((1, ()), ((), ())), ())

    def test_all_couples(self):
        for hill in SMALL + SOME_4 + [LINE_10, POND_10]:
            self.same(scripts.couples(hill), tuple(plain.couples(hill)))

    def test_many_couples(self):
        for hill, many in [((5, ()), 243), (beside(line(8), line(2)), 270), (POND_10, 3), (LINE_10, 66)]:
            found = scripts.couples(hill)
            self.assertEqual(len(found), many)
            self.same(found, tuple(sorted(set(found))))
            self.assertTrue(all(plain.is_couple(hill, couple) for couple in found))
