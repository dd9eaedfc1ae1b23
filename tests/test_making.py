"""[3.2] scripts that are read backwards."""

import unittest

from pourdrains.making import goal_of, let_moves
from tests import plain


class ReadBackwards(unittest.TestCase):
    def is_led(self, hill, couple, script):
        """Whether a script's deeds are let from the last one on, and decide all of the couple."""
        moves = let_moves(hill, couple, plain.even(hill))
        decided = 0
        for deed in reversed(script):
            led = {let: lot for let, _, lot in moves(decided)}
            if deed not in led:
                return False
            decided = led[deed]
        return decided == goal_of(couple)

    def test_just_the_scripts_that_make_a_couple(self):
        for hill in plain.hills(1) + plain.hills(2) + plain.hills(3)[::4]:
            for script in plain.scripts_of(hill, 3 if hill[0] < 3 else 2):
                made = plain.couple_of(hill, script)
                for couple in plain.couples(hill):
                    self.assertEqual(self.is_led(hill, couple, script), couple == made, (hill, couple, script))
