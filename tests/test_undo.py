"""Casts taken back."""

import unittest

from helper import attempt, being, cast, check, drawn, grounds_of, ground, level, last, open_level, run, seen, undo, who

STAGE = [drawn("..#.", "....", "^^~*"), being(0, 0, mana=9000), being(1, 1, life=3, most=7, side=2), being(3, 1, life=9, most=9, mana=40)]
SPELLS = (
    "hurt 2 on all", "hurt 3 on foes", "hurt 99 on all", "hurt 99 on self", "heal 3 on all", "push 1 on all", "pull 3 on all", "set wall on all",
    "set ice on line", "blink on all", "set fire on not self; blink on all; hurt 1 on beings; push 1 on friends when fire; hurt 99 on foes",
)


class Undo(unittest.TestCase):
    def test_what_it_answers(self):
        self.assertEqual(run(*STAGE, cast(1, 2, 1, "blink on all"), undo(), undo())[-2:], [[0], [-8]])

    def test_everything_is_as_it_was(self):
        before = seen(*STAGE)
        for words in SPELLS:
            for x, y in ((2, 1), (1, 1), (2, 0), (3, 2)):
                done = [*STAGE, cast(1, x, y, words)]
                self.assertEqual(last(*done)[0], 0)
                self.assertNotEqual(seen(*done), before, words)
                self.assertEqual(seen(*done, undo()), before, words)

    def test_the_beings_that_were_gone_can_do_things_again(self):
        killed = [*STAGE, cast(1, 2, 1, "hurt 99 on all")]
        self.assertEqual(last(*killed), [0, 99 * 12, 0, 3, 1, 2, 3, 0])
        self.assertEqual(last(*killed, cast(3, 2, 1, "blink on all")), [-3])
        self.assertEqual(last(*killed, undo(), cast(3, 2, 1, "blink on all")), [0, 5, 4, 3, 2, 1, 9, 0, 0])
        self.assertEqual(last(*killed, undo(), who(2)), [0, 1, 1, 3, 7, 1000000, 2])

    def test_mana_is_given_back(self):
        stage = [open_level(3, 2), being(0, 0, mana=10), cast(1, 1, 1, "hurt 10 on target")]
        self.assertEqual(last(*stage, cast(1, 1, 1, "hurt 1 on target")), [-6])
        self.assertEqual(last(*stage, undo(), cast(1, 1, 1, "hurt 10 on target")), [0, 10, 0, 0, 0])

    def test_a_cast_that_changed_no_more_than_the_mana(self):
        done = [*STAGE, cast(1, 2, 0, "blink on all")]
        self.assertEqual(last(*done), [0, 5, 0, 0, 0])
        self.assertEqual(last(*done, who(1)), [0, 0, 0, 10, 100, 8995, 0])
        self.assertEqual(last(*done, undo(), who(1)), [0, 0, 0, 10, 100, 9000, 0])

    def test_several_in_a_row(self):
        casts = [cast(1, 2, 1, "hurt 1 on foes"), cast(3, 3, 2, "set wall on target"), cast(1, 2, 1, "blink on all"),
                 cast(3, 0, 0, "pull 1 on all"), cast(1, 0, 2, "set ice on fire; hurt 2 on foes")]
        looks = [seen(*STAGE, *casts[:count]) for count in range(6)]
        for count in range(6):
            for back in range(count + 1):
                self.assertEqual(seen(*STAGE, *casts[:count], *[undo()] * back), looks[count - back], (count, back))
            self.assertEqual(last(*STAGE, *casts[:count], *[undo()] * count, undo()), [-8])

    def test_a_cast_after_an_undo(self):
        first, second, third = (cast(1, 2, 1, words) for words in ("hurt 1 on foes", "set fire on line", "blink on all"))
        self.assertEqual(seen(*STAGE, first, second, undo(), third), seen(*STAGE, first, third))
        self.assertEqual(seen(*STAGE, first, second, undo(), third, undo()), seen(*STAGE, first))
        self.assertEqual(seen(*STAGE, first, second, undo(), third, undo(), undo()), seen(*STAGE))
        self.assertEqual(last(*STAGE, first, second, undo(), third, undo(), undo(), undo()), [-8])
        self.assertEqual(run(*STAGE, first, undo(), first, undo(), undo())[-5:-1:2], run(*STAGE, first, undo(), first)[-3::2])

    def test_the_same_cast_answers_the_same_again(self):
        for words in SPELLS:
            once = last(*STAGE, cast(1, 2, 1, words))
            self.assertEqual(last(*STAGE, cast(1, 2, 1, words), undo(), cast(1, 2, 1, words)), once)
            self.assertEqual(last(*STAGE, cast(1, 2, 1, words), undo(), attempt(1, 2, 1, words)), once)

    def test_what_was_taken_back_to_stays_apart_from_what_is_done_next(self):
        first, second = cast(1, 2, 1, "hurt 1 on all"), cast(1, 2, 1, "set ice on all; push 1 on all; hurt 1 on all")
        self.assertEqual(seen(*STAGE, first, second, undo(), second, undo()), seen(*STAGE, first))
        self.assertEqual(seen(*STAGE, first, second, undo(), second, undo(), undo()), seen(*STAGE))


class HowMany(unittest.TestCase):
    stage = [open_level(2, 2), being(0, 0, life=1, most=100, mana=900)]
    heal = cast(1, 0, 0, "heal 1 on self")

    def test_up_to_twenty(self):
        for count in (1, 2, 19, 20):
            told = run(*self.stage, *[self.heal] * count, *[undo()] * (count + 2), level())
            self.assertEqual(told[-count - 3:-1], [[0]] * count + [[-8], [-8]], count)
            self.assertEqual(told[-1], [0, 2, 2, 2, 0, 7, 1, 0, 0, 1, 100, 900, 0])

    def test_more_than_twenty(self):
        for count in (21, 22, 30, 45):
            told = run(*self.stage, *[self.heal] * count, *[undo()] * 22, level())
            self.assertEqual(told[-23:-1], [[0]] * 20 + [[-8], [-8]], count)
            left = count - 20
            self.assertEqual(told[-1], [0, 2, 2, 2, 0, 7, 1, 0, 0, 1 + left, 100, 900 - 2 * left, 0])

    def test_each_step_back(self):
        for back in range(21):
            self.assertEqual(last(*self.stage, *[self.heal] * 25, *[undo()] * back, who(1)), [0, 0, 0, 26 - back, 100, 850 + 2 * back, 0])

    def test_how_many_are_told(self):
        counts = []
        for turn in range(24):
            counts.append(last(*self.stage, *[self.heal] * turn, level())[4])
        self.assertEqual(counts, [*range(21), 20, 20, 20])
        counts = [last(*self.stage, *[self.heal] * 24, *[undo()] * back, level())[4] for back in range(22)]
        self.assertEqual(counts, [*range(20, -1, -1), 0])

    def test_casts_after_undos_fill_up_again(self):
        calls = [*self.stage, *[self.heal] * 22, *[undo()] * 5, *[self.heal] * 4]
        self.assertEqual(last(*calls, level())[4], 19)
        self.assertEqual(last(*calls, self.heal, level())[4], 20)
        self.assertEqual(last(*calls, self.heal, self.heal, level())[4], 20)
        self.assertEqual(run(*calls, *[undo()] * 20)[-20:], [[0]] * 19 + [[-8]])
        self.assertEqual(last(*calls, *[undo()] * 19, who(1))[3], 3)

    def test_a_hundred_calls(self):
        told = run(*self.stage, *[self.heal] * 76, *[undo()] * 21, who(1))
        self.assertEqual(len(told), 100)
        self.assertEqual(told[-22:], [[0]] * 20 + [[-8], [0, 0, 0, 57, 100, 788, 0]])


class WhatCanNotBe(unittest.TestCase):
    def test_before_a_cast(self):
        self.assertEqual(last(undo()), [-2])
        self.assertEqual(last(open_level(2, 2), undo()), [-8])
        self.assertEqual(last(*STAGE, undo()), [-8])

    def test_after_a_being_was_put(self):
        done = [*STAGE, cast(1, 2, 1, "hurt 1 on all"), cast(1, 2, 1, "blink on all")]
        put = [*done, being(0, 2)]
        self.assertEqual(run(*put, undo())[-2:], [[0, 4], [-8]])
        self.assertEqual(seen(*put, undo()), seen(*put))
        self.assertEqual(last(*put, level())[4], 0)
        self.assertEqual(run(*put, cast(1, 3, 0, "blink on all"), undo(), undo())[-2:], [[0], [-8]])
        self.assertEqual(seen(*put, cast(4, 3, 0, "hurt 10 on self"), undo()), seen(*put))

    def test_after_a_being_was_put_back_in_time(self):
        put = [*STAGE, cast(1, 2, 1, "hurt 1 on all"), cast(1, 2, 1, "blink on all"), undo(), being(0, 2)]
        self.assertEqual(last(*put, undo()), [-8])
        self.assertEqual(last(*put, who(2)), [0, 1, 1, 2, 7, 1000000, 2])

    def test_a_being_that_was_refused_takes_nothing_away(self):
        done = [*STAGE, cast(1, 2, 1, "hurt 1 on all")]
        for refused in (being(0, 3), being(2, 0), being(1, 1), being(0, 1, side=4), being(0, 1, life=2, most=1)):
            self.assertLess(last(*done, refused)[0], 0)
            self.assertEqual(run(*done, refused, level(), undo())[-2:], [last(*done, level()), [0]])
            self.assertEqual(seen(*done, refused, undo()), seen(*STAGE))
        full = [open_level(3, 3)] + [being(k % 3, k // 3) for k in range(8)] + [cast(1, 0, 0, "hurt 1 on all")]
        self.assertEqual(run(*full, being(2, 2), undo(), undo())[-3:], [[-5], [0], [-8]])

    def test_after_a_level_was_opened(self):
        done = [*STAGE, cast(1, 2, 1, "hurt 1 on all")]
        self.assertEqual(run(*done, open_level(2, 2), undo())[-2:], [[0], [-8]])
        self.assertEqual(last(*done, open_level(4, 3), level()), [0, 4, 3, 1, 0, 0])
        self.assertEqual(run(*done, open_level(2, 2), being(0, 0), cast(1, 1, 1, "blink on all"), undo(), undo())[-2:], [[0], [-8]])

    def test_an_open_that_was_refused_takes_nothing_away(self):
        done = [*STAGE, cast(1, 2, 1, "hurt 1 on all")]
        for refused in (open_level(1, 2), open_level(2, 2, [1, 1, 1]), open_level(2, 2, [1, 1, 1, 5])):
            self.assertEqual(run(*done, refused, undo())[-2:], [[-1], [0]])
            self.assertEqual(seen(*done, refused, undo()), seen(*STAGE))

    def test_a_try(self):
        self.assertEqual(run(*STAGE, attempt(1, 2, 1, "hurt 1 on all"), undo())[-1:], [[-8]])
        done = [*STAGE, cast(1, 2, 1, "hurt 1 on all")]
        self.assertEqual(seen(*done, attempt(1, 2, 1, "blink on all"), undo()), seen(*STAGE))
        self.assertEqual(last(*done, attempt(1, 2, 1, "blink on all"), level())[4], 1)
        self.assertEqual(last(*done, attempt(1, 2, 1, "blink on all"), undo(), undo()), [-8])

    def test_a_cast_that_was_refused(self):
        done = [*STAGE, cast(1, 2, 1, "hurt 1 on all")]
        for refused in (cast(9, 2, 1, "blink on all"), cast(1, 4, 1, "blink on all"), cast(1, 2, 1, "blink"), cast(3, 2, 1, "hurt 41 on self"),
                        cast(1, 12, 1, "blink on all"), cast(1, 2, 1, [256]), cast(0, 2, 1, "blink on all")):
            self.assertEqual(len(last(*done, refused)), 1)
            self.assertEqual(last(*STAGE, refused, undo()), [-8])
            self.assertEqual(last(*done, refused, level())[4], 1)
            self.assertEqual(seen(*done, refused, undo()), seen(*STAGE))

    def test_an_undo_that_was_refused_changes_nothing(self):
        self.assertEqual(seen(*STAGE, undo(), undo()), seen(*STAGE))
        done = [*STAGE, cast(1, 2, 1, "hurt 1 on all")]
        self.assertEqual(seen(*done, undo(), undo(), undo()), seen(*STAGE))

    def test_calls_that_only_tell(self):
        done = [*STAGE, cast(1, 2, 1, "hurt 1 on all")]
        for call in (check("blink on all"), who(1), who(9), ground(), level(), [3, 0], [4, 0], [8, 0], [9, 0], [10, 0], [7, 1, 0, 0, 0]):
            self.assertEqual(run(*done, call, undo(), undo())[-2:], [[0], [-8]])
            self.assertEqual(seen(*done, call, undo()), seen(*STAGE))


class Numbers(unittest.TestCase):
    def test_they_are_not_given_again(self):
        killed = [*STAGE, cast(1, 1, 1, "hurt 3 on target")]
        self.assertEqual(last(*killed), [0, 3, 0, 1, 2, 0])
        self.assertEqual(last(*killed, undo(), level())[3], 4)
        self.assertEqual(last(*killed, undo(), being(0, 2)), [0, 4])
        self.assertEqual(last(*killed, being(1, 1)), [0, 4])
        self.assertEqual(run(*killed, being(1, 1), undo(), being(0, 2))[-3:], [[0, 4], [-8], [0, 5]])

    def test_eight_beings_again(self):
        stage = [open_level(3, 3)] + [being(k % 3, k // 3) for k in range(8)] + [cast(1, 0, 0, "hurt 10 on self"), undo()]
        self.assertEqual(last(*stage, being(2, 2)), [-5])
        self.assertEqual(last(*stage[:-1], being(2, 2)), [0, 9])

    def test_grounds_as_they_were(self):
        rows = ("..#.", "....", "^^~*")
        done = [*STAGE, cast(1, 2, 1, "set wall on all")]
        self.assertEqual(last(*done, ground()), [0, 12] + grounds_of(".###", "#.#.", "####"))
        self.assertEqual(last(*done, undo(), ground()), [0, 12] + grounds_of(*rows))


if __name__ == "__main__":
    unittest.main()
