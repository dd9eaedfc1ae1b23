"""The examples, as the document writes them."""

import unittest

from pourdrains import errors
from tests.same import Case

PART_1 = r"""
>>> from pourdrains.hills import beside, closing, is_hill, is_tree, led_hill, mirror, product
>>> LINE = (3, ((0, 1), (0, 2), (1, 2)))
>>> [is_hill((3, ((0, 1), (1, 2)))), closing((3, ((0, 1), (1, 2)))) == LINE, mirror(LINE), is_tree(LINE), is_tree((3, ((0, 1), (0, 2)))), led_hill((3, ((0, 1),)), (2, 0, 1))]
[False, True, (3, ((1, 0), (2, 0), (2, 1))), True, False, (3, ((2, 0),))]
>>> [beside((1, ()), (2, ((0, 1),))), product((2, ((0, 1),)), (2, ()))]
[(3, ((1, 2),)), (4, ((0, 2), (1, 3)))]
>>> from pourdrains.lots import highest, is_lower, judge_lower, just_above, lower_of, lowest, ponds, upper_of, waters
>>> FORK = (3, ((0, 2), (1, 2)))
>>> [waters(FORK), is_lower(FORK, (2,)), judge_lower(FORK, (0, 2)), lower_of(FORK, (2,)), upper_of(FORK, (0,)), highest(FORK, (0, 1)), lowest(FORK, (0, 2)), just_above(FORK, 0), ponds((3, ((0, 2), (2, 0))))]
[((), (0,), (0, 1), (0, 1, 2), (1,)), False, ('missing', 1, 2), (0, 1, 2), (0, 2), (0, 1), (0,), (2,), ((0, 2), (1,))]
>>> from pourdrains.hilltexts import hill_text, read_hill
>>> [hill_text(FORK), read_hill('hill 2\n1 0')]
['hill 3\n0 2\n1 2', (2, ((1, 0),))]
>>> read_hill('hill 3\n0 1\n1 2')
raises BadText(at=4)
"""

PART_2 = r"""
>>> from pourdrains.scripts import couple_of, couple_then, couples, done_to, last_reaching, reach, run
>>> FORK = (3, ((0, 2), (1, 2)))
>>> SCRIPT = (('pour', 2), ('open', 0))
>>> [reach(FORK, ('pour', 2)), reach(FORK, ('open', 0)), run(FORK, (0,), SCRIPT), couple_of(FORK, SCRIPT), last_reaching(FORK, SCRIPT, 1), last_reaching(FORK, (), 1)]
[(0, 1, 2), (0, 2), (1,), ((1,), (0, 2)), 0, None]
>>> [done_to(FORK, ((1,), (0, 2)), (0,)), couple_then(FORK, ((0, 1, 2), ()), ((), (0, 2))), couple_then(FORK, ((1,), (0, 2)), ((0,), ())), len(couples((2, ((0, 1),))))]
[(1,), ((1,), (0, 2)), ((0, 1), (2,)), 6]
"""

PART_3 = r"""
>>> from pourdrains.fewest import fewest, serving
>>> VEE = (3, ((0, 2), (1, 2)))
>>> [fewest(VEE, ((0, 1), (2,))), serving(VEE, ((0, 1), (2,))), fewest(VEE, ((0,), ())), fewest(VEE, ((), ()))]
[2, ((2,), (2,)), 1, 0]
>>> from pourdrains.prices import cheapest, cheapest_holds, led_holds, led_price, wish_price
>>> STEP, EVEN = (2, ((0, 1),)), ((1, 1), (1, 1))
>>> [cheapest(VEE, ((0, 1), (2,)), ((1, 1, 9), (1, 1, 1))), cheapest_holds(STEP, ((0,), (1,)), EVEN, 1, ('table', (((), 0), ((0,), 1), ((0, 1), 2), ((1,), 1)))), led_price(STEP, (0, 1), (0,), EVEN), led_holds(STEP, (), (0,), EVEN, 0, ('table', (((), 0), ((0,), 1), ((0, 1), 1)))), wish_price(STEP, (), (1,), (0,), EVEN), wish_price(STEP, (), (1,), (), ((5, 2), (1, 1)))]
[3, True, 1, True, None, 2]
"""

PART_4 = r"""
>>> from pourdrains.kinds import is_kind, kind_in, standing, world_of
>>> BOOK = (2, ((0, 1),))
>>> [is_kind(BOOK, ((0,), (1,))), is_kind(BOOK, ((1,), ())), standing(BOOK, (('pour', 1), ('open', 0)), ((0,), (1,))), standing(BOOK, (('pour', 1), ('open', 0)), ((), (0, 1))), standing(BOOK, (('pour', 0),), ((), (1,)))]
[True, False, 'dry', 'wet', 'kept']
>>> [world_of(BOOK, ((0,), (1,))), world_of((2, ()), ((0,), (1,))), kind_in((3, ((0, 1), (0, 2), (2, 1))), 2, 2)]
[(3, ((0, 1), (0, 2), (2, 1))), (3, ((0, 1), (0, 2), (2, 1))), ((0,), (1,))]
"""


class Examples(Case):
    def hold(self, text):
        """Run the rows behind >>> one after the other, each against the row below it, if it has one."""
        rows = text.strip().split("\n")
        known = dict(vars(errors))
        checked = 0
        for row, below in zip(rows, rows[1:] + [">>> "]):
            if not row.startswith(">>> "):
                continue
            if below.startswith(">>> "):
                exec(row[4:], known)
                continue
            checked += 1
            if below.startswith("raises "):
                self.hold_error(row[4:], below[7:], known)
            else:
                self.same(eval(row[4:], known), eval(below, known), row)
        return checked

    def hold_error(self, row, told, known):
        wanted = eval(told, known)
        with self.assertRaises(errors.HillError) as caught:
            eval(row, known)
        self.assertIs(type(caught.exception), type(wanted))
        self.same(vars(caught.exception), vars(wanted))

    def test_part_1(self):
        self.assertEqual(self.hold(PART_1), 5)

    def test_part_2(self):
        self.assertEqual(self.hold(PART_2), 2)

    def test_part_3(self):
        self.assertEqual(self.hold(PART_3), 2)

    def test_kinds_of_part_4(self):
        self.assertEqual(self.hold(PART_4), 2)


if __name__ == "__main__":
    unittest.main()
