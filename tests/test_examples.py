"""The examples, as the document writes them."""

import unittest

from pourdrains import errors
from tests.same import Case

PART_1 = r"""
>>> from pourdrains.hills import beside, closing, is_hill, is_tree, led_hill, mirror, product
>>> LINE = (3, ((0, 1), (0, 2), (1, 2)))
>>> [is_hill((3, ((0, 1), (1, 2)))), closing((3, ((0, 1), (1, 2)))) == LINE, mirror(LINE), is_tree(LINE), is_tree((3, ((0, 1), (0, 2)))), led_hill((3, ((0, 1),)), (2, 0, 1))]
[False, True, (3, ((1, 0), (2, 0), (2, 1))), True, False, (3, ((2, 0),))]
>>> [beside((1, ()), (2, ((0, 1),))), product((2, ((0, 1),)), (2, ()))]
[(3, ((1, 2),)), (4, ((0, 2), (1, 3)))]
>>> from pourdrains.lots import highest, is_lower, judge_lower, just_above, lower_of, lowest, ponds, upper_of, waters
>>> FORK = (3, ((0, 2), (1, 2)))
>>> [waters(FORK), is_lower(FORK, (2,)), judge_lower(FORK, (0, 2)), lower_of(FORK, (2,)), upper_of(FORK, (0,)), highest(FORK, (0, 1)), lowest(FORK, (0, 2)), just_above(FORK, 0), ponds((3, ((0, 2), (2, 0))))]
[((), (0,), (0, 1), (0, 1, 2), (1,)), False, ('missing', 1, 2), (0, 1, 2), (0, 2), (0, 1), (0,), (2,), ((0, 2), (1,))]
>>> from pourdrains.hilltexts import hill_text, read_hill
>>> [hill_text(FORK), read_hill('hill 2\n1 0')]
['hill 3\n0 2\n1 2', (2, ((1, 0),))]
>>> read_hill('hill 3\n0 1\n1 2')
raises BadText(at=4)
"""

PART_2 = r"""
>>> from pourdrains.scripts import couple_of, couple_then, couples, done_to, last_reaching, reach, run
>>> FORK = (3, ((0, 2), (1, 2)))
>>> SCRIPT = (('pour', 2), ('open', 0))
>>> [reach(FORK, ('pour', 2)), reach(FORK, ('open', 0)), run(FORK, (0,), SCRIPT), couple_of(FORK, SCRIPT), last_reaching(FORK, SCRIPT, 1), last_reaching(FORK, (), 1)]
[(0, 1, 2), (0, 2), (1,), ((1,), (0, 2)), 0, None]
>>> [done_to(FORK, ((1,), (0, 2)), (0,)), couple_then(FORK, ((0, 1, 2), ()), ((), (0, 2))), couple_then(FORK, ((1,), (0, 2)), ((0,), ())), len(couples((2, ((0, 1),))))]
[(1,), ((1,), (0, 2)), ((0, 1), (2,)), 6]
"""

PART_3 = r"""
>>> from pourdrains.fewest import fewest, serving
>>> VEE = (3, ((0, 2), (1, 2)))
>>> [fewest(VEE, ((0, 1), (2,))), serving(VEE, ((0, 1), (2,))), fewest(VEE, ((0,), ())), fewest(VEE, ((), ()))]
[2, ((2,), (2,)), 1, 0]
>>> from pourdrains.prices import cheapest, cheapest_holds, led_holds, led_price, wish_price
>>> STEP, EVEN = (2, ((0, 1),)), ((1, 1), (1, 1))
>>> [cheapest(VEE, ((0, 1), (2,)), ((1, 1, 9), (1, 1, 1))), cheapest_holds(STEP, ((0,), (1,)), EVEN, 1, ('table', (((), 0), ((0,), 1), ((0, 1), 2), ((1,), 1)))), led_price(STEP, (0, 1), (0,), EVEN), led_holds(STEP, (), (0,), EVEN, 0, ('table', (((), 0), ((0,), 1), ((0, 1), 1)))), wish_price(STEP, (), (1,), (0,), EVEN), wish_price(STEP, (), (1,), (), ((5, 2), (1, 1)))]
[3, True, 1, True, None, 2]
"""

PART_4 = r"""
>>> from pourdrains.kinds import is_kind, kind_in, standing, world_of
>>> BOOK = (2, ((0, 1),))
>>> [is_kind(BOOK, ((0,), (1,))), is_kind(BOOK, ((1,), ())), standing(BOOK, (('pour', 1), ('open', 0)), ((0,), (1,))), standing(BOOK, (('pour', 1), ('open', 0)), ((), (0, 1))), standing(BOOK, (('pour', 0),), ((), (1,)))]
[True, False, 'dry', 'wet', 'kept']
>>> [world_of(BOOK, ((0,), (1,))), world_of((2, ()), ((0,), (1,))), kind_in((3, ((0, 1), (0, 2), (2, 1))), 2, 2)]
[(3, ((0, 1), (0, 2), (2, 1))), (3, ((0, 1), (0, 2), (2, 1))), ((0,), (1,))]
>>> from pourdrains.steps import is_tidy, stepped, tidy
>>> [stepped(BOOK, (('pour', 0), ('open', 0), ('pour', 1)), ('strike', 0, 2)), stepped(BOOK, (('pour', 1),), ('put', 0, ('pour', 0), 1)), tidy(BOOK, (('pour', 1), ('pour', 0), ('open', 1), ('open', 0))), is_tidy(BOOK, (('pour', 1), ('open', 1), ('pour', 0)))]
[(('open', 0), ('pour', 1)), (('pour', 0), ('pour', 1)), (('pour', 1), ('open', 0)), True]
>>> from pourdrains.alike import alike_holds, are_alike, judge_alike, never_wetter_holds
>>> [are_alike(BOOK, (('pour', 0), ('pour', 1)), (('pour', 1),)), are_alike(BOOK, (('pour', 0), ('open', 1)), (('open', 1), ('pour', 0))), judge_alike(BOOK, (), (('pour', 0),))[0], judge_alike(BOOK, (('pour', 0),), (('pour', 0),))]
[True, False, 'parts', ('steps', ())]
>>> [alike_holds(BOOK, (('pour', 1), ('pour', 0)), (('pour', 1),), ('steps', (('swap', 0), ('strike', 0, 1)))), alike_holds(BOOK, (('pour', 0), ('open', 1)), (('open', 1), ('pour', 0)), ('parts', (0, 1), (0, 1))), never_wetter_holds(BOOK, (('open', 0),), (), ('never',)), never_wetter_holds(BOOK, (), (('open', 0),), ('wetter', (0,), ()))]
[True, True, True, True]
>>> stepped(BOOK, (('pour', 0), ('open', 1)), ('swap', 0))
raises BadStep(('swap', 0))
"""

PART_5 = r"""
>>> from pourdrains.plans import is_plan, is_weaving, many_weavings, plan_of_hands, weavings, woven
>>> BOOK = (2, ((0, 1),))
>>> HANDS = ((('pour', 0), ('pour', 1)), (('open', 0),))
>>> PLAN = plan_of_hands(BOOK, HANDS)
>>> [PLAN, weavings(BOOK, PLAN), many_weavings(BOOK, PLAN), woven(BOOK, PLAN, (0, 2, 1)), is_weaving(BOOK, PLAN, (1, 0, 2)), is_plan(BOOK, ((('pour', 0), ('pour', 1)), ((0, 1), (1, 0))))]
[((('pour', 0), ('pour', 1), ('open', 0)), ((0, 1),)), ((0, 1, 2), (0, 2, 1), (2, 0, 1)), 3, (('pour', 0), ('open', 0), ('pour', 1)), False, False]
>>> from pourdrains.certain import are_waits, can_be_last, certain_holds, clashes, ends, fewest_waits, judge_certain
>>> [can_be_last(BOOK, PLAN, ((0,), (0, 1))), judge_certain(BOOK, PLAN)[0], certain_holds(BOOK, PLAN, ('parts', (0, 1, 2), (2, 0, 1), (0,), (1,))), clashes(BOOK, PLAN), are_waits(BOOK, PLAN, ((1, 2),)), fewest_waits(BOOK, PLAN) in (((1, 2),), ((2, 0),), ((2, 1),))]
[(1, 2), 'parts', True, ((1, 2),), True, True]
>>> [ends((2, ((0, 1),)), PLAN), judge_certain(BOOK, plan_of_hands(BOOK, ((('pour', 0),), (('pour', 1),))))]
[(((), (0, 1)), ((0, 1), ())), ('certain',)]
"""

PART_6 = r"""
>>> from pourdrains.programs import always_holds, grounds, judge_ends, judge_programs, programs_hold, run_of
>>> ONE, HILL = (1, ()), (1, ())
>>> FILL = (('look', 0, 2, 1), ('do', ('pour', 0), 0), ('end',))
>>> [grounds(ONE), len(grounds((2, ()))), len(grounds((3, ()))), len(grounds((2, ((0, 1),)))), run_of(ONE, FILL, HILL, ()), judge_ends(ONE, FILL), run_of(ONE, (('do', ('pour', 0), 0),), HILL, ())]
[((1, ()),), 4, 29, 2, ('ends', (('pour', 0),), (0,)), ('ends', 4), ('round', (('pour', 0),), (('pour', 0),))]
>>> [always_holds(ONE, FILL, (0,), (), ('closed', ((HILL, 0, ()), (HILL, 0, (0,)), (HILL, 1, ()), (HILL, 2, (0,))))), always_holds(ONE, (('end',),), (0,), (), ('run', HILL, ())), programs_hold(ONE, FILL, (('end',),), ('unlike', HILL, ())), judge_programs(ONE, FILL, (('do', ('pour', 0), 1), ('end',)))[0]]
[True, True, True, 'alike']
"""

PART_7 = r"""
>>> from pourdrains.notes import best_look, fitting, judge_pair, many_fitting, pair_holds, sure_pairs, water_now
>>> TWO = (2, ())
>>> SEEN = (('do', ('open', 1)), ('do', ('pour', 0)), ('saw', 1, True))
>>> [many_fitting(TWO, (('do', ('pour', 0)), ('saw', 1, True))), many_fitting(TWO, SEEN), sure_pairs(TWO, SEEN), judge_pair(TWO, SEEN, 1, 0), judge_pair(TWO, SEEN, 0, 1)[0], water_now(TWO, SEEN), best_look(TWO, ())]
[8, 5, ((1, 0),), ('sure', True), 'open', ('wet', 'wet'), (0, 6, 6)]
>>> fitting((1, ()), (('saw', 0, False), ('do', ('pour', 0)), ('saw', 0, True)))
(((1, ()), ()),)
>>> from pourdrains.lost import fewest_lost, lost_holds
>>> ODD = (('saw', 0, True), ('saw', 0, False))
>>> [fewest_lost((1, ()), ODD), lost_holds((1, ()), ODD, 1, ('put', ((1, ()), (0,)), ((1, ('open', 0)),))), lost_holds((1, ()), ODD, 0, ('put', ((1, ()), (0,)), ()))]
[1, True, False]
>>> from pourdrains.notes import sure_pairs
>>> sure_pairs((1, ()), (('saw', 0, True), ('saw', 0, False)))
raises NoneFits()
"""

PART_8 = r"""
>>> from pourdrains.chances import after_ticks, forgotten_by, long_chances, long_share, mean_wait
>>> ONE, COIN = (1, ()), ((('open', 0), 1), (('pour', 0), 3))
>>> STEP, BOTH = (2, ((0, 1),)), ((('open', 1), 1), (('pour', 0), 1))
>>> [long_share(ONE, COIN, 0), long_chances(ONE, COIN), mean_wait(ONE, COIN), after_ticks(ONE, COIN, (), 1), long_chances(STEP, BOTH), mean_wait(STEP, BOTH), forgotten_by(STEP, BOTH, 2), after_ticks(STEP, BOTH, (0, 1), 1)]
[(3, 4), (((), (1, 4)), ((0,), (3, 4))), (1, 1), (((), (1, 4)), ((0,), (3, 4))), (((0,), (1, 1)),), (3, 1), (1, 2), (((0,), (1, 2)), ((0, 1), (1, 2)))]
>>> from pourdrains.speeds import convex_lots, speeds, trace_of
>>> [convex_lots((3, ((0, 1), (0, 2), (1, 2)))), speeds(ONE, COIN), speeds(STEP, BOTH), trace_of(STEP, BOTH, 1)]
[((), (0,), (0, 1), (0, 1, 2), (1,), (1, 2), (2,)), (((0, 1), 1), ((1, 1), 1)), (((1, 2), 2), ((1, 1), 1)), (2, 1)]
>>> from pourdrains.chances import long_share
>>> long_share((2, ()), ((('pour', 0), 1),), 1)
raises Unreached(1)
"""

PART_9 = r"""
>>> from pourdrains.heights import are_heights, heights_alike_holds, judge_heights_alike, run_heights, script_at, tall_deed, tall_hill, tall_water, water_at
>>> FORK = (3, ((0, 2), (1, 2)))
>>> [are_heights(FORK, 2, (2, 1, 1)), are_heights(FORK, 2, (0, 1, 1)), run_heights(FORK, 2, (2, 0, 0), (('pour', 2, 1), ('open', 0, 0))), water_at(FORK, 2, (2, 1, 1), 2), script_at(FORK, 2, (('pour', 2, 1), ('open', 0, 0), ('open', 1, 1)), 2)]
[True, False, (0, 1, 0), (0,), (('open', 0), ('open', 1))]
>>> [tall_hill((2, ((0, 1),)), 2), tall_water((2, ((0, 1),)), 2, (2, 1)), tall_deed((2, ((0, 1),)), 2, ('open', 0, 1))]
[(4, ((0, 1), (0, 2), (0, 3), (1, 3), (2, 3))), (0, 1, 2), ('open', 1)]
>>> BOOK = (1, ())
>>> ONE = (('pour', 0, 2), ('open', 0, 0), ('pour', 0, 1), ('open', 0, 1))
>>> OTHER = (('open', 0, 0), ('pour', 0, 2), ('pour', 0, 1), ('open', 0, 1))
>>> [judge_heights_alike(BOOK, 2, ONE, OTHER)[0], judge_heights_alike(BOOK, 2, ONE[:2], OTHER[:2])[0], heights_alike_holds(BOOK, 2, ONE[:2], OTHER[:2], ('parts', 2, (0,), (0,)))]
['levels', 'parts', True]
"""

PART_10 = r"""
>>> from pourdrains.grids import highest_points, is_tops, is_wet, many_wet, opened, poured
>>> [poured(2, ((1, 2),), (3, 0)), opened(2, ((1, 2), (3, 0)), (1, 1)), many_wet(2, ((0, 2), (3, 0))), is_wet(2, ((0, 2), (3, 0)), (1, 1)), is_tops(2, ((0, 0), (1, 1))), highest_points(3, ((0, 0, 1), (0, 2, 1), (1, 0, 0))), many_wet(3, ((1, 1, 1),))]
[((1, 2), (3, 0)), ((0, 2), (3, 0)), 6, False, False, ((0, 2, 1), (1, 0, 0)), 8]
>>> from pourdrains.staircases import behind_grid, box_of, grid_couple, rounds_couple, run_grid
>>> [grid_couple(2, (('pour', (1, 2)), ('open', (1, 1)))), run_grid(2, ((0, 5),), (('pour', (1, 2)), ('open', (1, 1)))), rounds_couple(2, (('pour', (0, 0)), ('open', (1, 1))), (1, 0), 3), behind_grid(2, (((1, 1),), ()), ((), ((0, 1),))), box_of(2, 1)]
[(((0, 2), (1, 0)), ((1, 1),)), ((0, 5), (1, 0)), (((2, 0),), ((1, 1),)), (((1, 0),), ((0, 1),)), ((4, ((0, 1), (0, 2), (0, 3), (1, 3), (2, 3))), ((0, 0), (0, 1), (1, 0), (1, 1)))]
>>> rounds_couple(2, (), (0, -1), 1)
raises BadPoint((0, -1))
"""

PART_11 = r"""
>>> from pourdrains.maps import carried_deed, carried_water, is_map, judge_single, many_maps, pushed_water
>>> STEP, FLAT, ONE = (2, ((0, 1),)), (2, ()), (1, ())
>>> [is_map(STEP, STEP, (0, 0)), is_map(STEP, STEP, (1, 0)), many_maps(STEP, STEP), carried_water(STEP, STEP, (0, 0), (0,)), carried_deed(STEP, STEP, (0, 0), ('pour', 0)), carried_deed(STEP, STEP, (0, 0), ('open', 1)), pushed_water(FLAT, STEP, (1, 0), (0,))]
[True, False, 3, (0, 1), (('pour', 1),), (), (0, 1)]
>>> [judge_single(STEP, STEP, (0, 0)), judge_single(FLAT, ONE, (0, 0))[:1], judge_single(STEP, ONE, (0, 0))]
[('single', (1, 1), (0, -1)), ('wide',), ('single', (1,), (0,))]
>>> from pourdrains.kindred import hills_hold, judge_hills, kinds_on, least_part
>>> [kinds_on(STEP, (0,)), least_part((3, ((0, 1), (0, 2))), (0,)), judge_hills(STEP, (2, ((1, 0),))), judge_hills(STEP, FLAT)]
[(((0,), ()), ((0,), (0,))), (0, 1), ('names', (1, 0)), ('counts', ((1, 2), (2, 1)), ((1, 1), (1, 1)))]
"""

PART_12 = r"""
>>> from pourdrains.blame import are_strikes, deciders, fewest_strikes, laid_to, loose_places, meets, needless
>>> FORK = (3, ((0, 2), (1, 2)))
>>> SCRIPT = (('pour', 0), ('pour', 2), ('open', 0), ('pour', 1))
>>> [deciders(FORK, SCRIPT), needless(FORK, SCRIPT), loose_places(FORK, SCRIPT), meets(FORK, SCRIPT, ((0, 'dry'), (1, 'wet'))), fewest_strikes(FORK, SCRIPT, ((0, 'wet'),)), fewest_strikes(FORK, SCRIPT, ((1, 'dry'),))]
[(2, 3, 2), (0, 1, 3), (0, 2), True, (2,), None]
>>> [are_strikes(FORK, SCRIPT, ((1, 'kept'),), (1, 3)), laid_to(FORK, ((('pour', 2),), (('open', 0),), (('pour', 1),)), 1), laid_to(FORK, ((('pour', 2),), (('open', 0),)), 0)]
[True, (0, 2), (0, 1)]
"""

PART_13 = r"""
>>> from pourdrains.works import Works, read_works
>>> FORK = (3, ((0, 2), (1, 2)))
>>> works = Works(FORK)
>>> [works.do((('pour', 2),)), works.promise(('wet', 1)), works.do((('open', 0),)), works.water(), works.promises(), works.book_of_deeds()]
[None, None, None, (1,), (('wet', 1),), (('pour', 2), ('open', 0))]
>>> [works.would((('open', 1),)), works.text(), works.undo(), works.water(), works.undoable(), works.redoable()]
[(), 'hill 3\n0 2\n1 2\nwater 1\npromise wet 1', None, (0, 1, 2), 2, 1]
>>> works.do((('open', 1),))
raises Broken(('wet', 1))
>>> from pourdrains.works import read_works
>>> read_works('hill 2\n0 1\nwater 1')
raises BadText(at=3)
"""


class Examples(Case):
    def hold(self, text):
        """Run the rows behind >>> one after the other, each against the row below it, if it has one."""
        rows = text.strip().split("\n")
        known = dict(vars(errors))
        checked = 0
        for row, below in zip(rows, rows[1:] + [">>> "]):
            if not row.startswith(">>> "):
                continue
            if below.startswith(">>> "):
                exec(row[4:], known)
                continue
            checked += 1
            if below.startswith("raises "):
                self.hold_error(row[4:], below[7:], known)
            else:
                self.same(eval(row[4:], known), eval(below, known), row)
        return checked

    def hold_error(self, row, told, known):
        wanted = eval(told, known)
        with self.assertRaises(errors.HillError) as caught:
            eval(row, known)
        self.assertIs(type(caught.exception), type(wanted))
        self.same(vars(caught.exception), vars(wanted))

    def test_part_1(self):
        self.assertEqual(self.hold(PART_1), 5)

    def test_part_2(self):
        self.assertEqual(self.hold(PART_2), 2)

    def test_part_3(self):
        self.assertEqual(self.hold(PART_3), 2)

    def test_part_4(self):
        self.assertEqual(self.hold(PART_4), 6)

    def test_part_5(self):
        self.assertEqual(self.hold(PART_5), 3)

    def test_part_6(self):
        self.assertEqual(self.hold(PART_6), 2)

    def test_part_7(self):
        self.assertEqual(self.hold(PART_7), 4)

    def test_part_8(self):
        self.assertEqual(self.hold(PART_8), 3)

    def test_part_9(self):
        self.assertEqual(self.hold(PART_9), 3)

    def test_part_10(self):
        self.assertEqual(self.hold(PART_10), 3)

    def test_part_11(self):
        self.assertEqual(self.hold(PART_11), 3)

    def test_part_12(self):
        self.assertEqual(self.hold(PART_12), 2)

    def test_part_13(self):
        self.assertEqual(self.hold(PART_13), 4)


if __name__ == "__main__":
    unittest.main()
