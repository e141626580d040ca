"""The bounds of areas, as the call bound tells them."""

import unittest

from helper import area, being, bound, bound_on, cost_on, drawn, last, open_level, run

# An area, and its bound on a level 2 by 2, 12 by 2, 3 by 4 and 12 by 12.
SIZES = ((2, 2), (12, 2), (3, 4), (12, 12))
BOUNDS = (
    ("self", 1, 1, 1, 1), ("target", 1, 1, 1, 1),
    ("line", 4, 14, 7, 24), ("bolt", 4, 14, 7, 24),
    ("all", 4, 24, 12, 144),
    ("wall", 4, 24, 12, 144), ("floor", 4, 24, 12, 144), ("water", 4, 24, 12, 144), ("ice", 4, 24, 12, 144), ("fire", 4, 24, 12, 144),
    ("beings", 4, 8, 8, 8), ("foes", 4, 8, 8, 8), ("friends", 4, 8, 8, 8),
    ("ball 0", 1, 1, 1, 1), ("ball 1", 4, 6, 9, 9), ("ball 2", 4, 10, 12, 25), ("ball 5", 4, 22, 12, 121), ("ball 6", 4, 24, 12, 144),
    ("ball 9", 4, 24, 12, 144),
    ("burst 0", 1, 1, 1, 1), ("burst 1", 4, 6, 9, 9), ("burst 2", 4, 10, 12, 25), ("burst 5", 4, 22, 12, 121),
    ("burst 6", 4, 24, 12, 144), ("burst 9", 4, 24, 12, 144),
    ("ring 0", 1, 1, 1, 1), ("ring 1", 4, 8, 8, 8), ("ring 2", 4, 16, 12, 16), ("ring 3", 4, 24, 12, 24), ("ring 4", 4, 24, 12, 32),
    ("ring 9", 4, 24, 12, 72),
    ("not self", 4, 24, 12, 144), ("not all", 4, 24, 12, 144), ("not ring 0", 4, 24, 12, 144), ("not (self & ice)", 4, 24, 12, 144),
    ("not not self", 4, 24, 12, 144),
    ("grow self", 4, 9, 9, 9), ("grow ball 1", 4, 24, 12, 81), ("grow foes", 4, 24, 12, 72), ("grow ring 2", 4, 24, 12, 144),
    ("grow grow self", 4, 24, 12, 81), ("grow grow grow self", 4, 24, 12, 144), ("grow all", 4, 24, 12, 144),
    ("grow (self | target)", 4, 18, 12, 18), ("grow self | target", 4, 10, 10, 10),
    ("line & foes", 4, 8, 7, 8), ("foes & line", 4, 8, 7, 8), ("self & all", 1, 1, 1, 1), ("all & self", 1, 1, 1, 1),
    ("all & ice", 4, 24, 12, 144), ("all & ring 3 & beings", 4, 8, 8, 8), ("not self & ball 2", 4, 10, 12, 25),
    ("self | target", 2, 2, 2, 2), ("self | target | self", 3, 3, 3, 3), ("self|self|self|self|self", 4, 5, 5, 5),
    ("foes | friends", 4, 16, 12, 16), ("foes | self", 4, 9, 9, 9), ("line | foes", 4, 22, 12, 32), ("self | all", 4, 24, 12, 144),
    ("all | self", 4, 24, 12, 144), ("self | all & foes", 4, 9, 9, 9), ("(self | all) & foes", 4, 8, 8, 8),
    ("self | ( target | (self) )", 3, 3, 3, 3), ("grow self & (foes | self | target)", 4, 9, 9, 9),
)


class Bounds(unittest.TestCase):
    def test_bounds(self):
        for words, *bounds in BOUNDS:
            for size, expected in zip(SIZES, bounds, strict=True):
                self.assertEqual(bound_on(*size, words), expected, (words, size))

    def test_a_step_costs_as_much(self):
        for words, *bounds in BOUNDS:
            self.assertEqual(cost_on(3, 4, "hurt 1 on " + words), bounds[2], words)
            self.assertEqual(cost_on(12, 2, "hurt 7 on " + words), 7 * bounds[1], words)

    def test_width_and_height_are_not_mixed_up(self):
        self.assertEqual(bound_on(2, 12, "ball 2"), 10)
        self.assertEqual(bound_on(12, 2, "ball 2"), 10)
        self.assertEqual(bound_on(4, 12, "burst 2"), 20)
        self.assertEqual(bound_on(12, 4, "burst 2"), 20)
        self.assertEqual(bound_on(4, 7, "ball 3"), 28)
        self.assertEqual(bound_on(6, 7, "ball 2"), 25)

    def test_it_is_that_of_the_area_as_it_is_written(self):
        """Nothing is made simpler for it."""
        self.assertEqual(bound_on(12, 12, "self | self"), 2)
        self.assertEqual(bound_on(12, 12, "not not self"), 144)
        self.assertEqual(bound_on(12, 12, "self | self & foes"), 2)

    def test_numbers_with_zeros_in_front(self):
        self.assertEqual(bound_on(12, 12, "ring 000"), 1)
        self.assertEqual(bound_on(12, 12, "ring 003"), 24)

    def test_the_ground_and_the_beings_do_not_matter(self):
        bare = [drawn("...", "...")]
        full = [drawn("##^", ".~*"), being(0, 1), being(1, 1, side=1)]
        for words in ("wall", "foes", "bolt", "burst 1", "beings & fire", "self | ice"):
            self.assertEqual(last(*bare, bound(words)), last(*full, bound(words)))

    def test_no_being_is_asked_for(self):
        self.assertEqual(run(open_level(5, 2), bound("line"), area(1, 0, 0, "line"))[1:], [[0, 7], [-3]])

    def test_chains_as_long_as_a_text(self):
        self.assertEqual(bound_on(12, 12, "|".join(["self"] * 60)), 60)
        self.assertEqual(bound_on(2, 2, "|".join(["self"] * 60)), 4)
        self.assertEqual(bound_on(12, 12, "|".join(["ice"] * 75)), 144)
        self.assertEqual(bound_on(12, 12, "&".join(["ice"] * 73) + "&self"), 1)
        self.assertEqual(bound_on(12, 12, "(" * 12 + "|".join(["self"] * 55) + ")" * 12), 55)


class Faults(unittest.TestCase):
    def test_faulty_texts(self):
        for words in (
            "", " ", "self self", "self;", "self; self", "self when all", "self on all", "hurt 1 on all", "blink on self", "all |", "& all",
            "(all", "all)", "ball", "ball 10", "ball self", "ring 1000", "not", "grow", "on", "when", "self @", "Self", "selfs", "1",
            "set", "set fire", "not " * 13 + "all", "(" * 13 + "all" + ")" * 13, "()", "self\x00", "self 1", "all not all",
        ):
            self.assertEqual(last(open_level(2, 2), bound(words)), [-4], words)

    def test_twelve_levels(self):
        self.assertEqual(bound_on(12, 12, "grow " * 12 + "self"), 144)
        self.assertEqual(bound_on(12, 12, "(" * 12 + "self" + ")" * 12 + "|" + "(" * 12 + "self" + ")" * 12), 2)


if __name__ == "__main__":
    unittest.main()
