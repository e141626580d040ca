"""Which steps may be exchanged."""

import unittest

from helper import apart, apart_row, being, drawn, last, open_level, run

ACTS = ("hurt 1", "heal 1", "push 1", "pull 1", "set wall", "set floor", "set water", "set ice", "set fire", "blink")
MOVES = ("push 1", "pull 1", "blink")
PLACE_WORDS = ("self", "line", "bolt", "beings", "foes", "friends")
GROUND_WORDS = ("bolt", "burst 0", "burst 9", "wall", "floor", "water", "ice", "fire")
# These look at nothing.
BLIND_WORDS = ("target", "all", "ball 0", "ball 3", "ring 0", "ring 9")
DEEP = (
    "%s", "(%s)", "not %s", "grow %s", "not (%s)", "all & %s", "%s & all", "all | %s", "%s | all", "target & (all | not grow (ball 1 & %s))",
    "all | target | %s | ring 2", "%s & target & ball 2 & all", "grow (not (grow (%s | all) & target)) | ring 1",
    "(((((((((((( %s ))))))))))))", "not grow " * 5 + "%s", "|".join(["all"] * 20) + "|%s", "%s&" + "&".join(["all"] * 20),
)


class ApartCase(unittest.TestCase):
    def assert_apart(self, first, second, expected):
        """In both orders: it's said of both alike."""
        self.assertEqual(apart_row(first + "; " + second), [expected], (first, second))
        self.assertEqual(apart_row(second + "; " + first), [expected], (second, first))


class Acts(ApartCase):
    def test_each_against_each_on_areas_that_look_at_nothing(self):
        """Only these pairs may: those that change life, set of the same kind, and set against those."""
        may = {("hurt 1", "hurt 1"), ("hurt 1", "heal 1"), ("heal 1", "heal 1")}
        for kind in ("set wall", "set floor", "set water", "set ice", "set fire"):
            may |= {("hurt 1", kind), ("heal 1", kind), (kind, kind)}
        for first in ACTS:
            for second in ACTS:
                expected = 1 if (first, second) in may or (second, first) in may else 0
                for word in ("all", "target", "ball 2 & not ring 1"):
                    self.assert_apart(first + " on " + word, second + " on " + word, expected)

    def test_how_much_does_not_matter(self):
        self.assert_apart("hurt 99 on all", "heal 1 on target", 1)
        self.assert_apart("push 5 on all", "hurt 99 on target", 0)
        self.assert_apart("hurt 1 on all", "hurt 4 on all", 1)
        self.assert_apart("push 1 on all", "push 2 on all", 0)

    def test_moves_against_what_looks_at_places(self):
        for move in MOVES:
            for other in ("hurt 1", "heal 1", "push 2", "pull 2", "blink", "set wall"):
                self.assert_apart(move + " on all", other + " on target", 0)

    def test_a_move_looks_at_the_ground_that_set_changes(self):
        for move in MOVES:
            for kind in ("wall", "floor", "water", "ice", "fire"):
                self.assert_apart(move + " on target", "set " + kind + " on all", 0)

    def test_the_ground_that_is_set_is_not_looked_at(self):
        """Its word stands in the step, but not in its area."""
        self.assert_apart("set fire on all", "set fire on target", 1)
        self.assert_apart("set wall on all", "set wall on target", 1)
        self.assert_apart("set wall on all", "hurt 1 on target", 1)

    def test_set_of_another_kind(self):
        kinds = ("wall", "floor", "water", "ice", "fire")
        for first in kinds:
            for second in kinds:
                self.assert_apart("set %s on ball 1" % first, "set %s on ring 1 when all" % second, 1 if first == second else 0)


class Looks(ApartCase):
    def test_lives_and_grounds(self):
        """A hurt that looks at the ground, against a set."""
        for word in GROUND_WORDS:
            self.assert_apart("hurt 1 on " + word, "set ice on all", 0)
            self.assert_apart("heal 1 on all when " + word, "set wall on all", 0)
            self.assert_apart("hurt 1 on " + word, "heal 1 on all", 1)
            self.assert_apart("hurt 1 on " + word, "heal 1 on all when " + word, 1)
        for word in PLACE_WORDS + BLIND_WORDS:
            expected = 0 if word == "bolt" else 1
            self.assert_apart("hurt 1 on " + word, "set ice on all", expected)
            self.assert_apart("heal 1 on all when " + word, "set wall on all", expected)

    def test_sets(self):
        """A set that looks at the ground, against a set of the same kind."""
        for word in GROUND_WORDS:
            self.assert_apart("set fire on " + word, "set fire on all", 0)
            self.assert_apart("set fire on all when " + word, "set fire on all", 0)
            self.assert_apart("set fire on " + word, "set fire on " + word, 0)
            self.assert_apart("set fire on " + word, "hurt 1 on all", 1)
        for word in PLACE_WORDS + BLIND_WORDS:
            expected = 0 if word == "bolt" else 1
            self.assert_apart("set fire on " + word, "set fire on all", expected)
            self.assert_apart("set fire on all when " + word, "set fire on " + word, expected)

    def test_two_sets_that_look_at_another_ground(self):
        self.assert_apart("set fire on ice", "set fire on water", 0)
        self.assert_apart("set fire on ice", "hurt 1 on water", 0)

    def test_lives_do_not_matter_to_places(self):
        for word in PLACE_WORDS:
            self.assert_apart("hurt 9 on " + word, "heal 1 on " + word, 1)
            self.assert_apart("hurt 9 on all when " + word, "hurt 1 on all", 1)
            self.assert_apart("hurt 9 on all", "hurt 1 on all when " + word, 1)

    def test_deep_within(self):
        for frame in DEEP:
            for word in GROUND_WORDS:
                self.assert_apart("hurt 1 on " + frame % word, "set ice on all", 0)
                self.assert_apart("hurt 1 on all when " + frame % word, "set ice on all", 0)
                self.assert_apart("set ice on all when " + frame % word, "set ice on all", 0)
            for word in ("self", "line", "beings", "foes", "friends") + BLIND_WORDS:
                self.assert_apart("hurt 1 on " + frame % word, "set ice on all", 1)
                self.assert_apart("set ice on all when " + frame % word, "set ice on all", 1)

    def test_both_areas_are_looked_at(self):
        self.assert_apart("hurt 1 on fire when self", "set ice on all", 0)
        self.assert_apart("hurt 1 on self when fire", "set ice on all", 0)
        self.assert_apart("hurt 1 on self when target", "set ice on all", 1)


class Places(ApartCase):
    """Whether a set looks at places doesn't come out against a step that moves, which looks at the ground."""

    def test_a_set_never_may_against_a_move(self):
        for move in MOVES:
            for frame in DEEP[:8]:
                for word in PLACE_WORDS + BLIND_WORDS + GROUND_WORDS:
                    self.assert_apart(move + " on all", "set fire on " + frame % word, 0)
                    self.assert_apart(move + " on " + frame % word, "set wall on all when " + frame % word, 0)


class Rows(ApartCase):
    def test_one_step(self):
        for words in ("hurt 1 on all", "blink on self when fire", "set fire on fire"):
            self.assertEqual(last(open_level(2, 2), apart(words)), [0, 0])

    def test_two_steps(self):
        self.assertEqual(last(open_level(2, 2), apart("hurt 1 on all; heal 1 on all")), [0, 1, 1])
        self.assertEqual(last(open_level(2, 2), apart("hurt 1 on all; push 1 on all")), [0, 1, 0])

    def test_three_steps(self):
        self.assertEqual(apart_row("hurt 1 on all; heal 1 on all; push 1 on all"), [1, 0, 0])
        self.assertEqual(apart_row("push 1 on all; heal 1 on all; hurt 1 on all"), [0, 0, 1])
        self.assertEqual(apart_row("hurt 1 on all; push 1 on all; heal 1 on all"), [0, 1, 0])

    def test_four_steps(self):
        """First with second, third, fourth; second with third, fourth; third with fourth."""
        hurt, on_fire, fire, ice = "hurt 1 on all", "hurt 1 on fire", "set fire on all", "set ice on all"
        self.assertEqual(apart_row(";".join([hurt, on_fire, fire, ice])), [1, 1, 1, 0, 0, 0])
        self.assertEqual(apart_row(";".join([fire, hurt, on_fire, ice])), [1, 0, 0, 1, 1, 0])
        self.assertEqual(apart_row(";".join([fire, ice, on_fire, hurt])), [0, 0, 1, 0, 1, 1])
        self.assertEqual(apart_row(";".join([on_fire, hurt, hurt, fire])), [1, 1, 0, 1, 1, 1])
        self.assertEqual(apart_row(";".join([fire, hurt, ice, fire])), [1, 0, 1, 1, 1, 0])
        self.assertEqual(apart_row(";".join([hurt, hurt, "blink on all", hurt])), [1, 0, 1, 0, 1, 0])

    def test_each_pair_of_a_longer_spell(self):
        steps = ["hurt 1 on ice", "set ice on all", "heal 1 on foes", "set ice on self", "set fire on all", "blink on all", "hurt 2 on bolt"]
        pairs = [(a, b) for a in range(len(steps)) for b in range(a + 1, len(steps))]
        self.assertEqual(apart_row(";".join(steps)), [apart_row(steps[a] + ";" + steps[b])[0] for a, b in pairs])
        self.assertEqual(apart_row(";".join(steps)), [
            0, 1, 0, 0, 0, 1,
            1, 1, 0, 0, 0,
            1, 1, 0, 1,
            0, 0, 0,
            0, 0,
            0,
        ])

    def test_as_many_steps_as_a_text_lets_be(self):
        self.assertEqual(apart_row(";".join(["blink on ice"] * 23)), [0] * 253)
        self.assertEqual(apart_row(";".join(["hurt 1 on all"] * 21)), [1] * 210)

    def test_the_level_does_not_matter(self):
        spell = "hurt 1 on fire; set ice on ring 9; heal 1 on foes"
        stage = [drawn("#^", ".."), being(0, 1)]
        self.assertEqual(last(*stage, apart(spell)), [0, 3, 0, 1, 1])
        self.assertEqual(last(open_level(12, 12), apart(spell)), [0, 3, 0, 1, 1])


class Faults(unittest.TestCase):
    def test_faulty_texts(self):
        for words in ("", "all", "hurt 1 on all;", "hurt 1 on all; hurt", "hurt 0 on all", "push 9 on all; hurt 1 on all", "; hurt 1 on all",
                      "hurt 1 on all @", "blink on " + "not " * 13 + "all"):
            self.assertEqual(last(open_level(2, 2), apart(words)), [-4], words)

    def test_nothing_changes(self):
        self.assertEqual(run(open_level(2, 2), apart("blink on all"), apart("blink"), being(0, 0), apart("blink on all")),
                         [[0], [0, 0], [-4], [0, 1], [0, 0]])


if __name__ == "__main__":
    unittest.main()
