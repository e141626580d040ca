"""How calls are handed in and answers given back."""

import sys
import unittest

from helper import (
    apart, area, attempt, being, bound, cast, check, cost, drawn, ground, level, open_level, print_form, run, tidy, undo, who,
)

from spellareas.level import answers

CALLS = [
    check("blink on all"), open_level(1, 1), drawn("..#", "^.~"), being(0, 0, mana=50), being(1, 1, life=3, side=1),
    being(2, 0), check("blink"), print_form("blink on(all)"), cost("hurt 1 on all"), attempt(1, 2, 1, "set ice on all"),
    cast(1, 2, 1, "hurt 3 on foes; blink on all; set ice on self"), area(1, 0, 0, "beings | ice"), cast(2, 0, 0, "blink on all"),
    bound("line | self"), bound("blink on all"), apart("blink on all; set ice on ice; set ice on all"), tidy("blink on self & all"),
    who(2), ground(), level(), undo(), undo(), who(2), ground(), level(), who(0),
]
FLAT = [number for call in CALLS for number in call]
ANSWERED = [
    1, -2, 1, -1, 1, 0, 2, 0, 1, 2, 0, 2, 1, -4, 3, 0, 2, 5, 14, 0, 12] + list(b"blink on all") + [
    2, 0, 6, 5, 0, 18, 0, 0, 6, 10, 0, 26, 4, 1, 2, 1, 10, 1, 2, 1, 4, 0, 2, 2, 1, 1, -3,
    2, 0, 6, 1, -4, 5, 0, 3, 0, 0, 0, 15, 0, 13] + list(b"blink on self") + [
    1, -3, 8, 0, 6, 1, 1, 0, 4, 1, 3, 13, 0, 3, 2, 3, 1, 7, 1, 2, 1, 10, 100, 24, 0, 1, 0, 1, -8,
    7, 0, 1, 1, 3, 100, 1000000, 1, 8, 0, 6, 1, 1, 0, 4, 1, 2,
    20, 0, 3, 2, 3, 0, 14, 1, 0, 0, 10, 100, 50, 0, 2, 1, 1, 3, 100, 1000000, 1, 1, -1]


class Interface(unittest.TestCase):
    def test_the_whole_answer(self):
        self.assertEqual(answers(FLAT), ANSWERED)

    def test_whole_numbers_in_a_list(self):
        told = answers(FLAT)
        self.assertIs(type(told), list)
        self.assertEqual({type(number) for number in told}, {int})

    def test_what_is_handed_in_is_not_changed(self):
        handed = list(FLAT)
        answers(handed)
        self.assertEqual(handed, FLAT)

    def test_it_is_not_changed_for_a_while_either(self):
        class Watched(list):
            def refuse(self, *arguments):
                raise AssertionError("changed")

            append = extend = insert = pop = remove = clear = sort = reverse = refuse
            __setitem__ = __delitem__ = __iadd__ = __imul__ = refuse

        self.assertEqual(answers(Watched(FLAT)), ANSWERED)

    def test_nothing_is_kept(self):
        self.assertEqual(answers(FLAT), answers(FLAT))
        self.assertEqual(answers(check("blink on all")), [1, -2])
        for count in range(1, len(CALLS) + 1):
            each = run(*CALLS[:count])
            self.assertEqual(each, run(*CALLS)[:count])

    def test_what_is_given_back_is_new(self):
        told = answers(FLAT)
        told.clear()
        self.assertEqual(answers(FLAT), ANSWERED)

    def test_one_call_alone(self):
        self.assertEqual(answers(open_level(2, 2)), [1, 0])
        self.assertEqual(answers(being(0, 0)), [1, -2])

    def test_a_hundred_calls(self):
        calls = [open_level(12, 12)] + [being(0, 0)] + [attempt(1, 5, 5, "set ice on burst 9")] * 98
        self.assertEqual(run(*calls), [[0], [0, 1]] + [[0, 432, 0, 0, 144]] * 98)

    def test_a_hundred_calls_that_tell_much(self):
        full = ";".join(["blink on ice"] * 23)
        each = run(open_level(12, 12), *[ground()] * 33, *[apart(full)] * 14, *[tidy(full)] * 14, *[level()] * 38)
        self.assertEqual(each[1:34], [[0, 144] + [1] * 144] * 33)
        self.assertEqual(each[34:48], [[0, 253] + [0] * 253] * 14)
        self.assertEqual(each[48:62], [[0, 23 * 14 - 2] + list("; ".join(["blink on ice"] * 23).encode())] * 14)
        self.assertEqual(each[62:], [[0, 12, 12, 1, 0, 0]] * 38)

    def test_many_levels(self):
        calls = []
        for turn in range(33):
            calls += [open_level(2 + turn % 11, 2), being(1, 1, life=1, most=1), cast(1, 0, 0, "hurt 1 on all")]
        self.assertEqual(run(*calls)[0::3], [[0]] * 33)
        self.assertEqual(run(*calls)[1::3], [[0, 1]] * 33)
        self.assertEqual(run(*calls)[2::3], [[0, 2 * (2 + turn % 11), 0, 1, 1, 0] for turn in range(33)])

    def test_long_texts_nested_and_chained(self):
        """The recursion allowed is small here: what is as long as its text is gone through by loops."""
        chain = "|".join(["all"] * 65)
        deep = "(" * 12 + chain[:199] + ")" * 12
        calls = [open_level(12, 12), being(0, 0)]
        for words in (chain, deep, chain.replace("|", "&")):
            calls += [area(1, 3, 3, words), check("blink on " + words), print_form("blink on " + words), cost("blink on " + words)]
            calls += [attempt(1, 3, 3, "blink on " + words), bound(words), apart("blink on " + words), tidy("blink on " + words)]
        depth = 0
        frame = sys._getframe()
        while frame is not None:
            depth += 1
            frame = frame.f_back
        limit = sys.getrecursionlimit()
        sys.setrecursionlimit(depth + 60)
        try:
            each = run(*calls)
        finally:
            sys.setrecursionlimit(limit)
        self.assertEqual([answer[0] for answer in each], [0] * len(calls))


if __name__ == "__main__":
    unittest.main()
