"""The bounds of areas and the costs of spells."""

import unittest

from helper import attempt, being, cost_on, drawn, last, open_level

SIZES = ((2, 2), (2, 12), (12, 2), (3, 3), (5, 2), (7, 11), (12, 12))


class Bounds(unittest.TestCase):
    def assert_bound(self, words, bound_on):
        """hurt 1 costs the bound of its area."""
        for width, height in SIZES:
            self.assertEqual(cost_on(width, height, "hurt 1 on " + words), bound_on(width, height), (words, width, height))

    def test_one_cell(self):
        self.assert_bound("self", lambda w, h: 1)
        self.assert_bound("target", lambda w, h: 1)

    def test_lines(self):
        for word in ("line", "bolt"):
            self.assert_bound(word, lambda w, h: w + h)

    def test_whole_level(self):
        for word in ("all", "wall", "floor", "water", "ice", "fire"):
            self.assert_bound(word, lambda w, h: w * h)

    def test_ball_and_burst(self):
        for word in ("ball", "burst"):
            for size in range(10):
                self.assert_bound("%s %d" % (word, size), lambda w, h: min(w, 2 * size + 1) * min(h, 2 * size + 1))
        self.assertEqual(cost_on(12, 12, "hurt 1 on ball 0"), 1)
        self.assertEqual(cost_on(12, 12, "hurt 1 on ball 5"), 121)
        self.assertEqual(cost_on(12, 12, "hurt 1 on ball 6"), 144)
        self.assertEqual(cost_on(12, 2, "hurt 1 on burst 1"), 6)
        self.assertEqual(cost_on(2, 12, "hurt 1 on burst 2"), 10)

    def test_ring(self):
        self.assert_bound("ring 0", lambda w, h: 1)
        for size in range(1, 10):
            self.assert_bound("ring %d" % size, lambda w, h: min(8 * size, w * h))
        self.assertEqual(cost_on(12, 12, "hurt 1 on ring 9"), 72)
        self.assertEqual(cost_on(3, 3, "hurt 1 on ring 1"), 8)
        self.assertEqual(cost_on(2, 3, "hurt 1 on ring 1"), 6)
        self.assertEqual(cost_on(12, 6, "hurt 1 on ring 9"), 72)
        self.assertEqual(cost_on(12, 5, "hurt 1 on ring 9"), 60)

    def test_beings(self):
        for word in ("beings", "foes", "friends"):
            self.assert_bound(word, lambda w, h: min(8, w * h))
        self.assertEqual(cost_on(2, 2, "hurt 1 on foes"), 4)
        self.assertEqual(cost_on(2, 4, "hurt 1 on foes"), 8)
        self.assertEqual(cost_on(3, 3, "hurt 1 on foes"), 8)

    def test_not(self):
        for words in ("not self", "not all", "not not self", "not ice"):
            self.assert_bound(words, lambda w, h: w * h)

    def test_grow(self):
        self.assert_bound("grow self", lambda w, h: min(9, w * h))
        self.assert_bound("grow foes", lambda w, h: min(9 * min(8, w * h), w * h))
        self.assert_bound("grow grow target", lambda w, h: min(9 * min(9, w * h), w * h))
        self.assert_bound("grow all", lambda w, h: w * h)
        self.assertEqual(cost_on(3, 3, "hurt 1 on grow self"), 9)
        self.assertEqual(cost_on(2, 4, "hurt 1 on grow self"), 8)
        self.assertEqual(cost_on(2, 5, "hurt 1 on grow self"), 9)

    def test_and(self):
        self.assert_bound("line & foes", lambda w, h: min(w + h, 8, w * h))
        self.assert_bound("self & all", lambda w, h: 1)
        self.assert_bound("all & self", lambda w, h: 1)
        self.assert_bound("all & ring 2 & foes", lambda w, h: min(8, w * h))

    def test_or(self):
        self.assert_bound("self | target", lambda w, h: 2)
        self.assert_bound("self | self | self | self", lambda w, h: 4)
        self.assert_bound("self | self | self | self | self", lambda w, h: min(5, w * h))
        self.assert_bound("foes | line", lambda w, h: min(min(8, w * h) + w + h, w * h))
        self.assert_bound("all | all", lambda w, h: w * h)
        self.assert_bound("self | all", lambda w, h: w * h)
        self.assertEqual(cost_on(2, 5, "hurt 1 on foes | self"), 9)
        self.assertEqual(cost_on(2, 5, "hurt 1 on foes | self | target"), 10)
        self.assertEqual(cost_on(2, 5, "hurt 1 on foes | self | target | self"), 10)

    def test_joined_the_way_they_bind(self):
        self.assertEqual(cost_on(12, 12, "hurt 1 on self | all & foes"), 9)
        self.assertEqual(cost_on(12, 12, "hurt 1 on (self | all) & foes"), 8)
        self.assertEqual(cost_on(12, 12, "hurt 1 on grow (self | target) & line"), 18)
        self.assertEqual(cost_on(12, 12, "hurt 1 on grow self | target"), 10)
        self.assertEqual(cost_on(12, 12, "hurt 1 on grow (self | target)"), 18)
        self.assertEqual(cost_on(12, 12, "hurt 1 on not self & foes"), 8)


class Prices(unittest.TestCase):
    def test_acts(self):
        for amount in (1, 7, 99):
            self.assertEqual(cost_on(5, 4, "hurt %d on all" % amount), 20 * amount)
            self.assertEqual(cost_on(5, 4, "heal %d on all" % amount), 40 * amount)
        for amount in (1, 5):
            self.assertEqual(cost_on(5, 4, "push %d on all" % amount), 40 * amount)
            self.assertEqual(cost_on(5, 4, "pull %d on all" % amount), 40 * amount)
        for ground in ("wall", "floor", "water", "ice", "fire"):
            self.assertEqual(cost_on(5, 4, "set %s on all" % ground), 60)
            self.assertEqual(cost_on(5, 4, "set %s on self" % ground), 3)
        for words in ("all", "self", "foes"):
            self.assertEqual(cost_on(5, 4, "blink on " + words), 5)

    def test_when(self):
        for act, price in (("hurt 3", 60), ("heal 3", 120), ("push 3", 120), ("pull 3", 120), ("set ice", 60), ("blink", 5)):
            self.assertEqual(cost_on(5, 4, act + " on all when all"), price + 1)
            self.assertEqual(cost_on(5, 4, act + " on all when self | ice"), price + 1)

    def test_steps(self):
        self.assertEqual(cost_on(5, 4, "blink on all; blink on all"), 10)
        self.assertEqual(cost_on(5, 4, "hurt 2 on self; heal 3 on foes when ice; set wall on line; blink on all when all"),
                         2 + (48 + 1) + 27 + 6)
        self.assertEqual(cost_on(2, 2, ";".join(["blink on ice"] * 23)), 115)
        self.assertEqual(cost_on(12, 12, ";".join(["heal 99 on all"] * 20)), 20 * 198 * 144)

    def test_the_ground_and_the_beings_do_not_matter(self):
        spell = "hurt 1 on wall | foes"
        self.assertEqual(last(drawn("..##", "...."), being(0, 0), being(1, 1, side=1), [4, len(spell)] + list(spell.encode())), [0, 8])

    def test_a_cast_costs_as_much(self):
        for spell in ("hurt 1 on line", "heal 1 on self | foes when ice", "blink on all; set ice on ring 2"):
            stage = [open_level(7, 3), being(0, 0)]
            self.assertEqual(last(*stage, attempt(1, 2, 1, spell))[1], cost_on(7, 3, spell))


if __name__ == "__main__":
    unittest.main()
