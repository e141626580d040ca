"""The document's examples."""

import unittest

from helper import apart_row, attempt, being, bound_on, cast, cost, fault, form, last, open_level, run, tidied, who


class Examples(unittest.TestCase):
    def test_cost_and_cast(self):
        calls = [open_level(5, 2), being(0, 0), being(2, 0, life=5, most=5, side=1)]
        spell = "hurt 2 on line & foes"
        self.assertEqual(
            run(*calls, cost(spell), cast(1, 4, 0, spell), attempt(1, 0, 0, "heal 1 on foes")),
            [[0], [0, 1], [0, 2], [0, 14], [0, 14, 4, 2, 2, 0, 3, 0, 0], [0, 16, 4, 2, 2, 0, 4, 0, 0]],
        )

    def test_fault(self):
        self.assertEqual(fault("push 9 on all"), (3, 5))

    def test_one_form(self):
        spell = "hurt 3 on (ball 2 | fire) & not self when foes; blink on all"
        self.assertEqual(form(spell), spell)
        self.assertEqual(form(" hurt\t003 on((ball 02|(fire)))&not(self)when foes\n;\rblink on all "), spell)

    def test_steps_that_may_be_exchanged(self):
        for spell, expected in (
            ("hurt 1 on all; heal 2 on foes", 1),
            ("push 1 on all; hurt 1 on foes", 0),
            ("set fire on ball 1; hurt 1 on all", 1),
        ):
            self.assertEqual(fault(spell), (0, 0))
            self.assertEqual(form(spell), spell)
            self.assertEqual(tidied(spell), spell)
            self.assertEqual(apart_row(spell), [expected])

    def test_bounds(self):
        self.assertEqual(bound_on(5, 2, "line"), 7)
        self.assertEqual(bound_on(5, 2, "foes"), 8)
        self.assertEqual(bound_on(5, 2, "line & foes"), 7)

    def test_it_leaves_being_2_with_life_3(self):
        calls = [open_level(5, 2), being(0, 0), being(2, 0, life=5, most=5, mana=8, side=1), cast(1, 4, 0, "hurt 2 on line & foes")]
        self.assertEqual(last(*calls, who(2)), [0, 2, 0, 3, 5, 8, 1])

    def test_mana_is_less_after_the_cast(self):
        spell = "hurt 2 on line & foes"
        calls = [open_level(5, 2), being(0, 0, mana=27), being(2, 0, life=5, side=1), cast(1, 4, 0, spell)]
        self.assertEqual(last(*calls, cast(1, 4, 0, spell)), [-6])
        self.assertEqual(last(*calls, cast(1, 4, 0, "hurt 13 on target")), [0, 13, 0, 0, 0])


if __name__ == "__main__":
    unittest.main()
