"""What who, ground and level tell."""

import unittest

from helper import (
    GREATEST, attempt, being, cast, drawn, ground, grounds_of, last, level, open_level, run, undo, who,
)

ROWS = ("..#.", "....", "^^~*")
STAGE = [drawn(*ROWS), being(3, 1, life=4, most=5, mana=600, side=3), being(1, 2, life=1, most=1000, mana=0, side=0)]


class Who(unittest.TestCase):
    def test_no_level(self):
        self.assertEqual(last(who(1)), [-2])
        self.assertEqual(last(who(1000)), [-2])

    def test_after_open(self):
        self.assertEqual(last(open_level(2, 2), who(1)), [-3])
        self.assertEqual(last(*STAGE, open_level(2, 2), who(1)), [-3])

    def test_after_being(self):
        self.assertEqual(last(*STAGE, who(1)), [0, 3, 1, 4, 5, 600, 3])
        self.assertEqual(last(*STAGE, who(2)), [0, 1, 2, 1, 1000, 0, 0])
        self.assertEqual(last(open_level(12, 12), being(11, 10, 1000, 1000, 1000000, 2), who(1)), [0, 11, 10, 1000, 1000, 1000000, 2])

    def test_never_there(self):
        for number in (3, 8, 999, 1000):
            self.assertEqual(last(*STAGE, who(number)), [-3])

    def test_gone(self):
        killed = [*STAGE, cast(1, 1, 2, "hurt 1 on target")]
        self.assertEqual(last(*killed, who(2)), [-3])
        self.assertEqual(last(*killed, who(1)), [0, 3, 1, 4, 5, 599, 3])
        self.assertEqual(last(*killed, undo(), who(2)), [0, 1, 2, 1, 1000, 0, 0])

    def test_refused(self):
        self.assertEqual(run(*STAGE, being(2, 0), who(3))[-2:], [[-4], [-3]])

    def test_out_of_range(self):
        for number in (0, 1001, -1, GREATEST, -GREATEST):
            self.assertEqual(last(*STAGE, who(number)), [-1])
            self.assertEqual(last(who(number)), [-1])

    def test_after_cast(self):
        self.assertEqual(last(*STAGE, cast(1, 0, 0, "blink on all"), who(1)), [0, 0, 0, 4, 5, 595, 3])
        self.assertEqual(last(*STAGE, cast(1, 0, 0, "hurt 3 on self"), who(1)), [0, 3, 1, 1, 5, 597, 3])
        self.assertEqual(last(*STAGE, cast(1, 0, 0, "heal 3 on self"), who(1)), [0, 3, 1, 5, 5, 594, 3])
        self.assertEqual(last(*STAGE, cast(1, 0, 0, "heal 3 on foes"), who(2)), [0, 1, 2, 4, 1000, 0, 0])
        self.assertEqual(last(*STAGE, cast(1, 0, 0, "push 1 on foes"), who(2)), [0, 1, 2, 1, 1000, 0, 0])
        self.assertEqual(last(*STAGE, cast(1, 0, 0, "pull 1 on foes"), who(2)), [0, 2, 1, 1, 1000, 0, 0])

    def test_after_try_and_undo(self):
        for words in ("blink on all", "hurt 3 on self", "pull 1 on foes", "hurt 9 on all"):
            for number in (1, 2):
                before = last(*STAGE, who(number))
                self.assertEqual(last(*STAGE, attempt(1, 0, 0, words), who(number)), before)
                self.assertEqual(last(*STAGE, cast(1, 0, 0, words), undo(), who(number)), before)


class Ground(unittest.TestCase):
    def test_no_level(self):
        self.assertEqual(last(ground()), [-2])
        self.assertEqual(run(open_level(2, 2, [1, 1, 1]), ground()), [[-1], [-2]])

    def test_after_open(self):
        self.assertEqual(last(open_level(2, 3, [0, 1, 2, 3, 4, 0]), ground()), [0, 6, 0, 1, 2, 3, 4, 0])
        self.assertEqual(last(open_level(3, 2, [0, 1, 2, 3, 4, 0]), ground()), [0, 6, 0, 1, 2, 3, 4, 0])
        self.assertEqual(last(open_level(12, 12, [4] * 144), ground()), [0, 144] + [4] * 144)
        self.assertEqual(last(*STAGE, open_level(2, 2), ground()), [0, 4, 1, 1, 1, 1])

    def test_after_being(self):
        self.assertEqual(last(*STAGE, ground()), [0, 12] + grounds_of(*ROWS))

    def test_after_cast_try_and_undo(self):
        fire = "set fire on ball 1"
        after = grounds_of(".^^^", ".^^^", "^^~*")
        self.assertEqual(last(*STAGE, cast(1, 2, 0, fire), ground()), [0, 12] + after)
        self.assertEqual(last(*STAGE, attempt(1, 2, 0, fire), ground()), [0, 12] + grounds_of(*ROWS))
        self.assertEqual(last(*STAGE, cast(1, 2, 0, fire), undo(), ground()), [0, 12] + grounds_of(*ROWS))
        self.assertEqual(last(*STAGE, cast(1, 2, 0, fire), cast(1, 2, 0, "set ice on wall"), ground()), [0, 12] + after)
        self.assertEqual(last(*STAGE, cast(1, 2, 0, "set ice on wall"), ground()), [0, 12] + grounds_of("..*.", *ROWS[1:]))
        self.assertEqual(last(*STAGE, cast(1, 2, 0, "set wall on all"), ground()), [0, 12] + grounds_of("####", "###.", "#^##"))

    def test_told_twice(self):
        self.assertEqual(run(*STAGE, ground(), ground())[-2:], [[0, 12] + grounds_of(*ROWS)] * 2)


class LevelCall(unittest.TestCase):
    def test_no_level(self):
        self.assertEqual(last(level()), [-2])
        self.assertEqual(run(being(0, 0), level()), [[-2], [-2]])

    def test_after_open(self):
        self.assertEqual(last(open_level(5, 2), level()), [0, 5, 2, 1, 0, 0])
        self.assertEqual(last(open_level(2, 12), level()), [0, 2, 12, 1, 0, 0])
        self.assertEqual(last(*STAGE, cast(1, 0, 0, "blink on all"), open_level(7, 3), level()), [0, 7, 3, 1, 0, 0])

    def test_after_being(self):
        self.assertEqual(last(*STAGE[:2], level()), [0, 4, 3, 2, 0, 7, 1, 3, 1, 4, 5, 600, 3])
        self.assertEqual(last(*STAGE, level()), [0, 4, 3, 3, 0, 14, 1, 3, 1, 4, 5, 600, 3, 2, 1, 2, 1, 1000, 0, 0])
        self.assertEqual(last(*STAGE, being(2, 0), level()), last(*STAGE, level()))

    def test_eight_beings(self):
        stage = [open_level(4, 2)] + [being(k // 2, k % 2, life=k + 1, most=50 + k, mana=10 * k, side=k % 4) for k in range(8)]
        told = []
        for k in range(8):
            told += [k + 1, k // 2, k % 2, k + 1, 50 + k, 10 * k, k % 4]
        self.assertEqual(last(*stage, level()), [0, 4, 2, 9, 0, 56] + told)

    def test_after_cast(self):
        self.assertEqual(last(*STAGE, cast(1, 0, 0, "blink on all"), level()),
                         [0, 4, 3, 3, 1, 14, 1, 0, 0, 4, 5, 595, 3, 2, 1, 2, 1, 1000, 0, 0])
        self.assertEqual(last(*STAGE, cast(1, 1, 2, "hurt 1 on target"), level()), [0, 4, 3, 3, 1, 7, 1, 3, 1, 4, 5, 599, 3])
        self.assertEqual(last(*STAGE, cast(1, 3, 1, "hurt 4 on target"), level()), [0, 4, 3, 3, 1, 7, 2, 1, 2, 1, 1000, 0, 0])
        self.assertEqual(last(*STAGE, cast(1, 3, 1, "hurt 9 on all"), level()), [0, 4, 3, 3, 1, 0])

    def test_beings_in_order_after_some_are_gone(self):
        stage = [open_level(4, 2)] + [being(3 - k, 0, life=k + 1, most=9, mana=500) for k in range(3)]
        stage += [cast(3, 2, 0, "hurt 2 on target"), being(0, 1, life=2, most=2, mana=3, side=1), cast(4, 1, 1, "hurt 1 on target")]
        self.assertEqual(last(*stage, level()), [0, 4, 2, 5, 1, 21, 1, 3, 0, 1, 9, 500, 0, 3, 1, 0, 3, 9, 498, 0, 4, 0, 1, 2, 2, 2, 1])

    def test_after_try_and_undo(self):
        before = last(*STAGE, level())
        for words in ("blink on all", "hurt 3 on self", "pull 1 on foes", "hurt 9 on all"):
            self.assertEqual(last(*STAGE, attempt(1, 0, 0, words), level()), before)
            self.assertEqual(last(*STAGE, cast(1, 0, 0, words), undo(), level()), before)
            twice = last(*STAGE, cast(2, 0, 0, words), cast(1, 0, 0, words), level())
            self.assertEqual(twice[4], 1)

    def test_how_many_casts_can_be_taken_back(self):
        blink = cast(1, 3, 0, "blink on all")
        for count in (0, 1, 2, 19, 20, 21, 40):
            self.assertEqual(last(*STAGE, *[blink] * count, level())[4], min(count, 20))
        self.assertEqual(last(*STAGE, *[blink] * 3, undo(), level())[4], 2)
        self.assertEqual(last(*STAGE, *[blink] * 3, being(0, 0), level())[3:5], [4, 0])

    def test_the_next_number(self):
        killed = [*STAGE, cast(1, 1, 2, "hurt 1 on target")]
        self.assertEqual(last(*killed, level())[3], 3)
        self.assertEqual(last(*killed, being(1, 2), level())[3], 4)
        self.assertEqual(last(*STAGE, being(9, 9), level())[3], 3)


if __name__ == "__main__":
    unittest.main()
