"""Ranges and refusals: each of them, and their order."""

import unittest

from helper import (
    GREATEST,
    apart,
    area,
    attempt,
    being,
    bound,
    cast,
    check,
    cost,
    drawn,
    ground,
    last,
    level,
    open_level,
    print_form,
    run,
    seen,
    tidy,
    undo,
    who,
)

AIMED = (cast, attempt, area)
TEXTED = (check, print_form, cost, bound, apart, tidy)
STAGE = [drawn("..#.", "....", "^^~*"), being(0, 0, mana=20), being(1, 1, life=3, most=7, side=2)]


def good_text(call):
    return "all" if call in (area, bound) else "hurt 1 on all"


class Ranges(unittest.TestCase):
    def assert_range(self, call_with, least, greatest, least_answer, greatest_answer):
        """Both ends are taken, and what's beyond them is refused."""
        self.assertEqual(last(*call_with(least)), least_answer)
        self.assertEqual(last(*call_with(greatest)), greatest_answer)
        for beyond in (least - 1, greatest + 1, -GREATEST, GREATEST):
            self.assertEqual(last(*call_with(beyond)), [-1], beyond)

    def test_width(self):
        for height in (2, 5, 12):
            self.assertEqual(last(open_level(2, height)), [0])
            self.assertEqual(last(open_level(12, height)), [0])
        for width in (1, 13, 0, -2, GREATEST, -GREATEST):
            self.assertEqual(last([0, width, 2, 4, 1, 1, 1, 1]), [-1])
            self.assertEqual(last([0, width, 2] + [0]), [-1])
        self.assertEqual(last(open_level(1, 2)), [-1])
        self.assertEqual(last(open_level(13, 2)), [-1])
        self.assertEqual(last([0, -2, -2, 4, 1, 1, 1, 1]), [-1])

    def test_height(self):
        for height in (1, 13, 0, -2, GREATEST, -GREATEST):
            self.assertEqual(last([0, 2, height, 4, 1, 1, 1, 1]), [-1])
            self.assertEqual(last([0, 2, height, 0]), [-1])
        self.assertEqual(last(open_level(2, 1)), [-1])
        self.assertEqual(last(open_level(2, 13)), [-1])
        self.assertEqual(last(open_level(12, 13)), [-1])

    def test_grounds(self):
        for at in (0, 2, 5):
            def call_with(ground):
                grounds = [1] * 6
                grounds[at] = ground
                return [open_level(3, 2, grounds)]

            self.assert_range(call_with, 0, 4, [0], [0])

    def test_length_of_the_levels_row(self):
        for length in (0, 1, 5, 7, 12, 144, 300):
            self.assertEqual(last(open_level(2, 3, [1] * length)), [-1], length)
        self.assertEqual(last(open_level(2, 3, [1] * 6)), [0])
        self.assertEqual(last(open_level(12, 12, [1] * 143)), [-1])
        self.assertEqual(last(open_level(12, 12, [1] * 144)), [0])
        self.assertEqual(last(open_level(12, 12, [1] * 145)), [-1])

    def test_being(self):
        wide = open_level(12, 12)
        self.assert_range(lambda x: [wide, being(x, 3)], 0, 11, [0, 1], [0, 1])
        self.assert_range(lambda y: [wide, being(3, y)], 0, 11, [0, 1], [0, 1])
        self.assert_range(lambda life: [wide, being(3, 3, life=life, most=1000)], 1, 1000, [0, 1], [0, 1])
        self.assert_range(lambda most: [wide, being(3, 3, life=1, most=most)], 1, 1000, [0, 1], [0, 1])
        self.assert_range(lambda most: [wide, being(3, 3, life=500, most=most)], 500, 1000, [0, 1], [0, 1])
        self.assert_range(lambda most: [wide, being(3, 3, life=1000, most=most)], 1000, 1000, [0, 1], [0, 1])
        self.assert_range(lambda mana: [wide, being(3, 3, mana=mana)], 0, 1000000, [0, 1], [0, 1])
        self.assert_range(lambda side: [wide, being(3, 3, side=side)], 0, 3, [0, 1], [0, 1])

    def test_most_and_life_both_out_of_range(self):
        self.assertEqual(last(open_level(2, 2), being(0, 0, life=1001, most=1001)), [-1])
        self.assertEqual(last(open_level(2, 2), being(0, 0, life=0, most=0)), [-1])

    def test_aims(self):
        for call in AIMED:
            words = good_text(call)
            stage = [open_level(12, 12), being(0, 0)]
            for end in (0, 11):
                self.assertEqual(last(*stage, call(1, end, 3, words))[0], 0)
                self.assertEqual(last(*stage, call(1, 3, end, words))[0], 0)
            for beyond in (-1, 12, GREATEST, -GREATEST):
                self.assertEqual(last(*stage, call(1, beyond, 3, words)), [-1])
                self.assertEqual(last(*stage, call(1, 3, beyond, words)), [-1])
            self.assertEqual(last(*stage, call(1000, 3, 3, words)), [-3])
            for beyond in (0, -1, 1001, GREATEST, -GREATEST):
                self.assertEqual(last(*stage, call(beyond, 3, 3, words)), [-1])

    def test_bytes(self):
        """A byte in its range makes these texts faulty, one out of it is refused."""
        for call in TEXTED + AIMED:
            aim = (1, 0, 0) if call in AIMED else ()
            words = list(good_text(call).encode())
            for byte in (0, 255):
                for spoiled in (words + [byte], [byte] + words):
                    answer = last(*STAGE, call(*aim, spoiled))
                    place = spoiled.index(byte)
                    self.assertEqual(answer, [0, 1, place] if call == check else [-4])
            for byte in (-1, 256, GREATEST, -GREATEST):
                for spoiled in (words + [byte], [byte] + words, [byte], [0] * 299 + [byte], words[:2] + [byte] + words):
                    self.assertEqual(last(*STAGE, call(*aim, spoiled)), [-1])

    def test_lengths_of_texts(self):
        for call in TEXTED + AIMED:
            aim = (1, 0, 0) if call in AIMED else ()
            self.assertEqual(last(*STAGE, call(*aim, "")), [0, 2, 0] if call == check else [-4])
            full = good_text(call).rjust(300)
            self.assertEqual(last(*STAGE, call(*aim, full)), last(*STAGE, call(*aim, good_text(call))))
            self.assertEqual(last(*STAGE, call(*aim, " " * 300)), [0, 2, 300] if call == check else [-4])
            self.assertEqual(last(*STAGE, call(*aim, " " + full)), [-1])


class Refusals(unittest.TestCase):
    def test_no_level(self):
        self.assertEqual(last(being(0, 0)), [-2])
        for call in TEXTED:
            self.assertEqual(last(call("hurt 1 on all")), [-2])
            self.assertEqual(last(call("nothing")), [-2])
        for call in AIMED:
            self.assertEqual(last(call(1, 0, 0, good_text(call))), [-2])
            self.assertEqual(last(call(9, 11, 11, "nothing")), [-2])

        for call in (undo(), who(1), ground(), level()):
            self.assertEqual(last(call), [-2])

    def test_a_refused_open_opens_nothing(self):
        self.assertEqual(run(open_level(2, 2, [1, 1, 1, 5]), being(0, 0)), [[-1], [-2]])
        self.assertEqual(run(open_level(1, 2), undo(), who(1), ground(), level()), [[-1]] + [[-2]] * 4)

    def test_range_goes_before_no_level(self):
        self.assertEqual(last(being(-1, 0)), [-1])
        self.assertEqual(last(being(0, 0, life=5, most=4)), [-1])
        self.assertEqual(last(being(0, 0, side=4)), [-1])
        self.assertEqual(last(who(0)), [-1])
        self.assertEqual(last(who(1001)), [-1])
        for call in TEXTED:
            self.assertEqual(last(call([256])), [-1])
        for call in AIMED:
            self.assertEqual(last(call(0, 0, 0, "all")), [-1])
            self.assertEqual(last(call(1, 12, 0, "all")), [-1])
            self.assertEqual(last(call(1, 0, 12, "all")), [-1])
            self.assertEqual(last(call(1, 0, 0, [-1])), [-1])

    def test_range_goes_before_the_rest(self):
        self.assertEqual(last(*STAGE, being(11, 11, side=4)), [-1])
        self.assertEqual(last(*STAGE, being(2, 0, side=-1)), [-1])
        for call in TEXTED:
            self.assertEqual(last(*STAGE, call([0, 256])), [-1])
        for call in AIMED:
            self.assertEqual(last(*STAGE, call(9, 0, 0, [256])), [-1])
            self.assertEqual(last(*STAGE, call(9, 12, 0, "?")), [-1])

    def test_being_not_in_the_level(self):
        self.assertEqual(last(*STAGE, being(4, 0)), [-3])
        self.assertEqual(last(*STAGE, being(0, 3)), [-3])
        self.assertEqual(last(*STAGE, being(11, 11)), [-3])
        self.assertEqual(last(*STAGE, being(3, 2)), [0, 3])

    def test_being_in_a_wall_or_where_somebody_stands(self):
        self.assertEqual(last(*STAGE, being(2, 0)), [-4])
        self.assertEqual(last(*STAGE, being(0, 0)), [-4])
        self.assertEqual(last(*STAGE, being(1, 1)), [-4])
        for x, y in ((0, 1), (0, 2), (2, 2), (3, 2)):
            self.assertEqual(last(*STAGE, being(x, y)), [0, 3])

    def test_nine_beings(self):
        stage = [drawn(".....", "....#")] + [being(k % 4, k // 4) for k in range(8)]
        self.assertEqual(run(*stage)[1:], [[0, number] for number in range(1, 9)])
        self.assertEqual(last(*stage, being(4, 0)), [-5])
        self.assertEqual(last(*stage, being(4, 1)), [-4])
        self.assertEqual(last(*stage, being(0, 0)), [-4])
        self.assertEqual(last(*stage, being(5, 0)), [-3])

    def test_a_place_is_free_again_when_a_being_is_gone(self):
        stage = [open_level(4, 3)] + [being(k % 4, k // 4) for k in range(8)] + [being(0, 2)]
        stage.append(cast(1, 3, 1, "hurt 10 on target"))
        self.assertEqual(run(*stage, being(3, 1), being(0, 2))[-4:], [[-5], [0, 10, 0, 1, 8, 0], [0, 9], [-5]])

    def test_no_such_being_or_target(self):
        for call in AIMED:
            for number, x, y in ((3, 0, 0), (1000, 0, 0), (1, 4, 0), (1, 0, 3), (3, 4, 3)):
                for words in (good_text(call), "nothing", ""):
                    self.assertEqual(last(*STAGE, call(number, x, y, words)), [-3])

    def test_faulty_texts(self):
        for call in (print_form, cost, apart, tidy):
            for words in ("", "all", "hurt 1 on all;", "hurt 100 on all", "hurt 1 on all @", "blink on " + "not " * 13 + "all"):
                self.assertEqual(last(*STAGE, call(words)), [-4])
        for call in (cast, attempt):
            for words in ("", "all", "hurt 1 on all;", "hurt 100 on all", "hurt 1 on all @", "blink on " + "not " * 13 + "all"):
                self.assertEqual(last(*STAGE, call(1, 0, 0, words)), [-4])
        for words in ("", "hurt 1 on all", "all;", "all when all", "all all", "ball", "ball 10", "all |", "(all", "all)",
                      "all @", "not " * 13 + "all"):
            self.assertEqual(last(*STAGE, area(1, 0, 0, words)), [-4])
            self.assertEqual(last(*STAGE, bound(words)), [-4])

    def test_a_fault_goes_before_too_little_mana(self):
        for call in (cast, attempt):
            self.assertEqual(last(*STAGE, call(2, 0, 0, "hurt 99 on all")), [0, 1188, 0, 2, 1, 2, 0])
            self.assertEqual(last(*STAGE, call(1, 0, 0, "hurt 99 on all")), [-6])
            self.assertEqual(last(*STAGE, call(1, 0, 0, "hurt 99 on all;")), [-4])
            self.assertEqual(last(*STAGE, call(1, 4, 0, "hurt 99 on all")), [-3])

    def test_a_refusal_leaves_everything_as_it_was(self):
        before = seen(*STAGE)
        refused = [
            open_level(2, 2, [1, 1, 1, 5]), open_level(4, 3, [0] * 11), open_level(1, 1),
            being(0, 1, side=4), being(4, 0), being(2, 0), being(1, 1),
            print_form("all"), cost("all"), check([256]),
            cast(1, 0, 0, "hurt 21 on target"), cast(1, 0, 0, "set wall on all"), cast(1, 0, 0, "blink on all;"),
            cast(3, 0, 0, "blink on all"), cast(1, 4, 0, "blink on all"), cast(1, 0, 0, [0, 300]),
            attempt(1, 0, 0, "set wall on all"), attempt(3, 0, 0, "blink on all"),
            area(1, 0, 0, "all all"), area(3, 0, 0, "all"), area(0, 0, 0, "all"),
            bound("hurt 1 on all"), bound([-1]), apart("all"), apart([256]), tidy("all"), tidy([256]), who(0), who(3), undo(),
        ]
        for call in refused:
            answer = run(*STAGE, call)[-1]
            self.assertEqual(len(answer), 1, call)
            self.assertLess(answer[0], 0, call)
            self.assertEqual(seen(*STAGE, call), before, call)
            self.assertEqual(last(*STAGE, call, being(0, 1)), [0, 3])
        self.assertEqual(seen(*STAGE, *refused), before)
        done = [*STAGE, cast(2, 0, 1, "hurt 1 on foes; set ice on fire")]
        for call in refused[:-1]:
            self.assertEqual(seen(*done, call), seen(*done), call)
            self.assertEqual(seen(*done, call, undo()), before, call)
        self.assertEqual(seen(*done, *refused[:-1]), seen(*done))

    def test_a_new_level(self):
        again = [open_level(3, 3)]
        self.assertEqual(run(*STAGE, *again, area(1, 0, 0, "all"), being(0, 0))[-2:], [[-3], [0, 1]])
        self.assertEqual(last(*STAGE, *again, being(2, 2), area(1, 0, 0, "beings"))[1:], [2, 2, 2])
        self.assertEqual(last(*STAGE, *again, being(2, 0), area(1, 0, 0, "wall")), [0, 0])

    def test_numbers_are_not_given_again(self):
        stage = [*STAGE, cast(1, 1, 1, "hurt 3 on target")]
        self.assertEqual(last(*stage), [0, 3, 0, 1, 2, 0])
        self.assertEqual(last(*stage, being(1, 1)), [0, 3])
        self.assertEqual(last(*stage, being(1, 1), area(2, 0, 0, "all")), [-3])
        self.assertEqual(last(*stage, cast(2, 0, 0, "blink on all")), [-3])


if __name__ == "__main__":
    unittest.main()
