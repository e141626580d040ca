"""What casting does, what it answers, and that a try does nothing."""

import unittest

from helper import area, attempt, being, cast, cost_on, drawn, last, open_level, pairs, run, seen

FIELD = ("......", "......", "......")


class CastCase(unittest.TestCase):
    def cast(self, stage, number, x, y, words):
        """What a cast answers behind its cost: the beings that changed, those that are gone, how many cells did."""
        width, height = stage[0][1:3]
        answer = last(*stage, cast(number, x, y, words))
        self.assertEqual(answer[:2], [0, cost_on(width, height, words)])
        self.assertEqual(last(*stage, attempt(number, x, y, words)), answer)
        gone_at = 3 + answer[2]
        changed = answer[3:gone_at]
        cells_at = gone_at + 1 + answer[gone_at]
        gone = answer[gone_at + 1:cells_at]
        self.assertEqual(len(answer), cells_at + 1)
        self.assertEqual(len(changed) % 4, 0)
        return [tuple(changed[k:k + 4]) for k in range(0, len(changed), 4)], gone, answer[cells_at]

    def assert_cast(self, stage, aim, words, changed=(), gone=(), cells=0):
        self.assertEqual(self.cast(stage, *aim, words), (list(changed), list(gone), cells), words)


class Lives(CastCase):
    stage = [drawn(*FIELD), being(0, 0, life=10, most=20), being(2, 0, life=5, most=8, side=1), being(4, 0, life=7, most=7, side=2)]

    def test_hurt(self):
        self.assert_cast(self.stage, (1, 2, 0), "hurt 4 on target", [(2, 2, 0, 1)])
        self.assert_cast(self.stage, (1, 2, 0), "hurt 4 on all", [(1, 0, 0, 6), (2, 2, 0, 1), (3, 4, 0, 3)])
        self.assert_cast(self.stage, (1, 2, 0), "hurt 4 on foes", [(2, 2, 0, 1), (3, 4, 0, 3)])
        self.assert_cast(self.stage, (1, 1, 0), "hurt 4 on target")

    def test_gone_at_nought_and_below(self):
        self.assert_cast(self.stage, (1, 2, 0), "hurt 5 on target", gone=[2])
        self.assert_cast(self.stage, (1, 2, 0), "hurt 99 on target", gone=[2])
        self.assert_cast(self.stage, (1, 2, 0), "hurt 7 on all", [(1, 0, 0, 3)], [2, 3])
        self.assert_cast(self.stage, (1, 2, 0), "hurt 10 on all", gone=[1, 2, 3])

    def test_heal(self):
        self.assert_cast(self.stage, (1, 2, 0), "heal 2 on target", [(2, 2, 0, 7)])
        self.assert_cast(self.stage, (1, 2, 0), "heal 3 on target", [(2, 2, 0, 8)])
        self.assert_cast(self.stage, (1, 2, 0), "heal 4 on target", [(2, 2, 0, 8)])
        self.assert_cast(self.stage, (1, 4, 0), "heal 4 on target")
        self.assert_cast(self.stage, (1, 4, 0), "heal 99 on all", [(1, 0, 0, 20), (2, 2, 0, 8)])

    def test_above_most_in_between(self):
        self.assert_cast(self.stage, (1, 4, 0), "heal 99 on target; hurt 99 on target")
        self.assert_cast(self.stage, (1, 4, 0), "heal 10 on target; hurt 12 on target", [(3, 4, 0, 5)])
        self.assert_cast(self.stage, (1, 4, 0), "heal 10 on target; hurt 5 on target")

    def test_below_nought_in_between(self):
        self.assert_cast(self.stage, (1, 4, 0), "hurt 7 on target; heal 1 on target", [(3, 4, 0, 1)])
        self.assert_cast(self.stage, (1, 4, 0), "hurt 99 on target; heal 98 on target", [(3, 4, 0, 6)])
        self.assert_cast(self.stage, (1, 4, 0), "hurt 99 on target; heal 92 on target", gone=[3])
        self.assert_cast(self.stage, (1, 4, 0), "hurt 99 on target; heal 99 on target")

    def test_it_stands_where_it_stands_till_the_end(self):
        dead = "hurt 99 on foes; "
        self.assert_cast(self.stage, (1, 2, 0), dead + "blink on all", gone=[2, 3])
        self.assert_cast(self.stage, (1, 2, 0), dead + "set wall on target", gone=[2, 3])
        self.assert_cast(self.stage, (1, 2, 0), dead + "set wall on foes | self", gone=[2, 3])
        self.assert_cast(self.stage, (1, 2, 0), dead + "hurt 1 on self when foes", [(1, 0, 0, 9)], [2, 3])
        self.assert_cast(self.stage, (1, 2, 0), dead + "push 1 on foes; set ice on foes", gone=[2, 3], cells=2)
        stage = self.stage + [cast(1, 2, 0, dead + "push 1 on foes; set ice on foes")]
        self.assertEqual(pairs(last(*stage, area(1, 0, 0, "ice"))), [(3, 0), (5, 0)])
        pushed = "hurt 99 on foes; push 5 on friends"
        stage = [open_level(6, 2), being(0, 0), being(1, 0), being(4, 0, life=5, side=1)]
        self.assert_cast(stage, (1, 0, 0), pushed, [(2, 3, 0, 10)], [3])

    def test_lives_are_settled_only_at_the_end(self):
        stage = [open_level(3, 2), being(0, 0, life=1, most=1), being(2, 0, life=1, most=1000)]
        self.assert_cast(stage, (1, 0, 0), "heal 50 on all; hurt 50 on all", [])
        self.assert_cast(stage, (1, 0, 0), "hurt 1 on all; hurt 1 on all; heal 3 on friends", [(2, 2, 0, 2)])

    def test_settled_beings_are_kept_so(self):
        stage = self.stage + [cast(1, 0, 0, "heal 99 on all")]
        self.assert_cast(stage, (1, 0, 0), "hurt 1 on all", [(1, 0, 0, 19), (2, 2, 0, 7), (3, 4, 0, 6)])


class Moves(CastCase):
    def test_push_in_eight_directions(self):
        for dx in (-1, 0, 1):
            for dy in (-1, 0, 1):
                if dx or dy:
                    stage = [open_level(9, 9), being(4, 4), being(4 + dx, 4 + dy)]
                    self.assert_cast(stage, (1, 4, 4), "push 2 on all", [(2, 4 + 3 * dx, 4 + 3 * dy, 10)])
                    self.assert_cast(stage, (1, 4, 4), "push 5 on all", [(2, 4 + 4 * dx, 4 + 4 * dy, 10)])

    def test_pull_in_eight_directions(self):
        for dx in (-1, 0, 1):
            for dy in (-1, 0, 1):
                if dx or dy:
                    stage = [open_level(9, 9), being(4, 4), being(4 + 4 * dx, 4 + 4 * dy)]
                    self.assert_cast(stage, (1, 4, 4), "pull 2 on all", [(2, 4 + 2 * dx, 4 + 2 * dy, 10)])
                    self.assert_cast(stage, (1, 4, 4), "pull 5 on all", [(2, 4 + dx, 4 + dy, 10)])

    def test_between_the_directions(self):
        stage = [open_level(9, 9), being(4, 4), being(6, 5)]
        self.assert_cast(stage, (1, 4, 4), "push 1 on all", [(2, 7, 6, 10)])
        self.assert_cast(stage, (1, 4, 4), "push 5 on all", [(2, 8, 7, 10)])
        self.assert_cast(stage, (1, 4, 4), "pull 1 on all", [(2, 5, 4, 10)])

    def test_the_direction_stays_through_the_step(self):
        stage = [open_level(9, 9), being(4, 4), being(6, 5)]
        self.assert_cast(stage, (1, 4, 4), "pull 5 on all", [(2, 1, 0, 10)])
        self.assert_cast(stage, (1, 4, 4), "pull 3 on all", [(2, 3, 2, 10)])
        self.assert_cast(stage, (1, 4, 4), "pull 2 on all; pull 1 on all", [(2, 4, 3, 10)])

    def test_walls_and_edges(self):
        rows = ("......#.", "........")
        stage = [drawn(*rows), being(0, 0), being(3, 0)]
        self.assert_cast(stage, (1, 0, 0), "push 1 on all", [(2, 4, 0, 10)])
        self.assert_cast(stage, (1, 0, 0), "push 5 on all", [(2, 5, 0, 10)])
        stage = [drawn(*rows), being(0, 1), being(5, 1)]
        self.assert_cast(stage, (1, 0, 0), "push 2 on all", [(2, 7, 1, 10)])
        self.assert_cast(stage, (1, 0, 0), "push 5 on all", [(2, 7, 1, 10)])
        stage = [drawn(*rows), being(5, 0), being(7, 0)]
        self.assert_cast(stage, (1, 0, 0), "push 5 on all")
        self.assert_cast(stage, (1, 0, 0), "pull 5 on all")
        stage = [drawn("...", "..#", "..."), being(1, 0), being(1, 1), being(2, 2)]
        self.assert_cast(stage, (1, 0, 0), "push 1 on all", [(2, 1, 2, 10)])
        self.assert_cast(stage, (1, 0, 0), "pull 1 on ring 2")

    def test_all_grounds_but_walls_are_passed(self):
        stage = [drawn("..~*^.", "######"), being(0, 0), being(1, 0)]
        self.assert_cast(stage, (1, 0, 0), "push 5 on all", [(2, 5, 0, 10)])

    def test_other_beings_in_order(self):
        # The nearer one goes first and is stopped, the farther one has room.
        stage = [open_level(8, 2), being(0, 0), being(2, 0), being(3, 0)]
        self.assert_cast(stage, (1, 0, 0), "push 3 on all", [(3, 6, 0, 10)])
        # The farther one goes first.
        stage = [open_level(8, 2), being(0, 0), being(3, 0), being(2, 0)]
        self.assert_cast(stage, (1, 0, 0), "push 3 on all", [(2, 6, 0, 10), (3, 5, 0, 10)])
        stage = [open_level(8, 2), being(0, 0), being(5, 0), being(4, 0)]
        self.assert_cast(stage, (1, 0, 0), "pull 2 on all", [(3, 2, 0, 10)])
        stage = [open_level(8, 2), being(0, 0), being(4, 0), being(5, 0)]
        self.assert_cast(stage, (1, 0, 0), "pull 2 on all", [(2, 2, 0, 10), (3, 3, 0, 10)])

    def test_the_caster_stays_and_stops_others(self):
        stage = [open_level(8, 2), being(0, 0), being(1, 0)]
        self.assert_cast(stage, (1, 0, 0), "push 1 on self")
        self.assert_cast(stage, (1, 0, 0), "pull 5 on self | beings")
        stage = [open_level(8, 2), being(4, 0), being(3, 0, side=1), being(5, 0, side=1)]
        self.assert_cast(stage, (1, 4, 0), "push 1 on beings", [(2, 2, 0, 10), (3, 6, 0, 10)])
        self.assert_cast(stage, (1, 4, 0), "pull 1 on beings")
        self.assert_cast(stage, (2, 4, 0), "push 1 on beings", [(3, 6, 0, 10)])

    def test_the_area_is_looked_at_when_the_step_begins(self):
        # Being 2 goes into the area, but it didn't stand in it; being 3 leaves it and goes on.
        stage = [open_level(9, 2), being(0, 0), being(2, 0), being(4, 0)]
        self.assert_cast(stage, (1, 4, 0), "push 3 on ball 1", [(3, 7, 0, 10)])
        self.assert_cast(stage, (1, 4, 0), "push 1 on all; push 1 on ball 1", [(2, 4, 0, 10), (3, 6, 0, 10)])

    def test_moved_beings_that_come_back_did_not_change(self):
        stage = [open_level(9, 2), being(0, 0), being(4, 0)]
        self.assert_cast(stage, (1, 0, 0), "push 2 on all; pull 2 on all")
        self.assert_cast(stage, (1, 0, 0), "push 2 on all; hurt 3 on all; pull 2 on all; heal 2 on foes",
                         [(1, 0, 0, 7), (2, 4, 0, 7)])


class Grounds(CastCase):
    def test_set(self):
        stage = [drawn("#.~*^", "....."), being(0, 1)]
        for word, cells in (("wall", 8), ("floor", 4), ("water", 9), ("ice", 9), ("fire", 9)):
            self.assert_cast(stage, (1, 0, 0), "set %s on all" % word, cells=cells)
            self.assert_cast(stage, (1, 0, 0), "set %s on target" % word, cells=0 if word == "wall" else 1)
            self.assert_cast(stage, (1, 2, 0), "set %s on target" % word, cells=0 if word == "water" else 1)

    def test_set_is_kept(self):
        stage = [drawn("...", "..."), being(0, 0), cast(1, 2, 1, "set fire on ball 1")]
        self.assertEqual(last(*stage), [0, 18, 0, 0, 4])
        self.assertEqual(pairs(last(*stage, area(1, 0, 0, "fire"))), [(1, 0), (2, 0), (1, 1), (2, 1)])
        self.assertEqual(pairs(last(*stage, area(1, 0, 0, "floor"))), [(0, 0), (0, 1)])

    def test_no_wall_under_a_being(self):
        stage = [drawn("....", "...."), being(0, 0), being(2, 1, side=1)]
        self.assert_cast(stage, (1, 2, 1), "set wall on all", cells=6)
        self.assert_cast(stage, (1, 2, 1), "set wall on target")
        self.assert_cast(stage, (1, 2, 1), "set wall on beings")
        self.assert_cast(stage, (1, 2, 1), "set ice on beings", cells=2)
        stage = stage + [cast(1, 0, 0, "set wall on all")]
        self.assertEqual(pairs(last(*stage, area(1, 0, 0, "floor"))), [(0, 0), (2, 1)])

    def test_a_later_step_looks_at_the_new_ground(self):
        stage = [drawn("......", "......"), being(0, 0), being(4, 0, side=1)]
        self.assert_cast(stage, (1, 5, 0), "set fire on line; hurt 1 on fire", [(2, 4, 0, 9)], cells=5)
        self.assert_cast(stage, (1, 2, 0), "set wall on target; pull 5 on foes", [(2, 3, 0, 10)], cells=1)
        self.assert_cast(stage, (1, 5, 0), "set wall on target; push 5 on foes", cells=1)
        self.assert_cast(stage, (1, 2, 0), "set wall on target; set ice on bolt", cells=2)
        self.assert_cast(stage, (1, 2, 0), "set wall on target; blink on all", cells=1)
        self.assert_cast(stage, (1, 1, 0), "set wall on line & not foes; set floor on wall")
        self.assert_cast(stage, (1, 1, 0), "set fire on ball 1; set water on fire; set fire on target", cells=6)

    def test_changed_back_is_not_changed(self):
        stage = [drawn(".^", ".."), being(0, 0)]
        self.assert_cast(stage, (1, 1, 0), "set ice on all; set floor on all; set fire on target")
        self.assert_cast(stage, (1, 1, 0), "set fire on target")


class Blinks(CastCase):
    rows = ("..#.", "....")

    def test_onto_a_free_cell(self):
        stage = [drawn(*self.rows), being(0, 0), being(3, 1)]
        self.assert_cast(stage, (1, 3, 0), "blink on all", [(1, 3, 0, 10)])
        self.assert_cast(stage, (2, 0, 1), "blink on target", [(2, 0, 1, 10)])
        self.assertEqual(last(*stage, cast(1, 3, 0, "blink on all"), area(1, 0, 0, "self")), [0, 2, 3, 0])

    def test_where_it_cannot_go(self):
        stage = [drawn(*self.rows), being(0, 0), being(3, 1)]
        self.assert_cast(stage, (1, 2, 0), "blink on all")
        self.assert_cast(stage, (1, 3, 1), "blink on all")
        self.assert_cast(stage, (1, 0, 0), "blink on all")
        self.assert_cast(stage, (1, 3, 0), "blink on not target")
        self.assert_cast(stage, (1, 3, 0), "blink on self | wall | ring 1")
        self.assert_cast(stage, (1, 3, 0), "blink on bolt")
        self.assert_cast(stage, (1, 3, 0), "blink on line", [(1, 3, 0, 10)])

    def test_later_steps_look_from_the_new_cell(self):
        stage = [open_level(7, 2), being(0, 0), being(3, 0, side=1)]
        self.assert_cast(stage, (1, 6, 0), "blink on all; push 1 on foes", [(1, 6, 0, 10), (2, 2, 0, 10)])
        self.assert_cast(stage, (1, 6, 0), "push 1 on foes; blink on all; push 2 on foes", [(1, 6, 0, 10), (2, 2, 0, 10)])
        self.assert_cast(stage, (1, 6, 0), "blink on all; hurt 1 on line | self", [(1, 6, 0, 9)])
        self.assert_cast(stage, (1, 6, 0), "hurt 1 on line | self; blink on all", [(1, 6, 0, 9), (2, 3, 0, 9)])


class When(CastCase):
    def test_when(self):
        stage = [drawn("...", "..^"), being(0, 0), being(2, 0, side=1)]
        for act, done in (
            ("hurt 3 on foes", ([(2, 2, 0, 7)], [], 0)), ("heal 3 on foes", ([(2, 2, 0, 13)], [], 0)),
            ("pull 1 on foes", ([(2, 1, 0, 10)], [], 0)), ("set ice on fire", ([], [], 1)),
            ("blink on all", ([(1, 1, 1, 10)], [], 0)),
        ):
            for words in ("fire", "foes", "self", "not ice", "all", "target"):
                self.assertEqual(self.cast(stage, 1, 1, 1, act + " when " + words), done)
            for words in ("ice", "not all", "fire & foes", "ring 9", "wall | water"):
                self.assert_cast(stage, (1, 1, 1), act + " when " + words)

    def test_things_as_they_stand_then(self):
        stage = [drawn("....", "...."), being(0, 0), being(3, 0, side=1)]
        self.assert_cast(stage, (1, 1, 0), "hurt 1 on foes when fire; set fire on target; hurt 2 on foes when fire",
                         [(2, 3, 0, 8)], cells=1)
        self.assert_cast(stage, (1, 1, 0), "hurt 1 on foes when target & self; blink on all; hurt 2 on foes when target & self",
                         [(1, 1, 0, 10), (2, 3, 0, 8)])

    def test_an_undone_step_is_paid_for(self):
        stage = [open_level(3, 2), being(0, 0, mana=20), cast(1, 0, 0, "blink on all when ice")]
        self.assertEqual(last(*stage), [0, 6, 0, 0, 0])
        self.assertEqual(last(*stage, cast(1, 0, 0, "hurt 15 on ball 0")), [-6])
        self.assertEqual(last(*stage, cast(1, 0, 0, "heal 7 on target"))[:2], [0, 14])


class Mana(CastCase):
    def test_just_enough(self):
        stage = [open_level(3, 2), being(0, 0, mana=14)]
        self.assertEqual(last(*stage, cast(1, 1, 1, "hurt 14 on target")), [0, 14, 0, 0, 0])
        self.assertEqual(last(*stage, cast(1, 1, 1, "hurt 15 on target")), [-6])
        self.assertEqual(last(*stage, attempt(1, 1, 1, "hurt 14 on target")), [0, 14, 0, 0, 0])
        self.assertEqual(last(*stage, attempt(1, 1, 1, "hurt 15 on target")), [-6])

    def test_less_after_each_cast(self):
        stage = [open_level(3, 2), being(0, 0, mana=14), being(2, 1, mana=3), cast(1, 1, 1, "hurt 10 on target")]
        self.assertEqual(last(*stage, cast(1, 1, 1, "hurt 4 on target")), [0, 4, 0, 0, 0])
        self.assertEqual(last(*stage, cast(1, 1, 1, "hurt 5 on target")), [-6])
        self.assertEqual(last(*stage, cast(1, 1, 1, "hurt 4 on target"), cast(1, 1, 1, "hurt 1 on target")), [-6])
        self.assertEqual(last(*stage, cast(2, 1, 1, "hurt 3 on target")), [0, 3, 0, 0, 0])
        self.assertEqual(last(*stage, cast(2, 1, 1, "hurt 4 on target")), [-6])

    def test_none(self):
        stage = [open_level(3, 2), being(0, 0, mana=0)]
        self.assertEqual(last(*stage, cast(1, 1, 1, "hurt 1 on target")), [-6])

    def test_a_refused_cast_takes_none(self):
        stage = [open_level(3, 2), being(0, 0, mana=14), cast(1, 1, 1, "hurt 15 on target"), cast(1, 1, 1, "hurt 1 on")]
        self.assertEqual(last(*stage, cast(1, 1, 1, "hurt 14 on target")), [0, 14, 0, 0, 0])


class DyingCasters(CastCase):
    stage = [open_level(6, 2), being(0, 0, life=3), being(2, 0, side=1), being(4, 0)]

    def test_it_goes_on_casting(self):
        for amount in (3, 4, 99):
            self.assert_cast(self.stage, (1, 5, 0), "hurt %d on self; hurt 2 on foes; push 1 on foes" % amount,
                             [(2, 3, 0, 8)], [1])
        self.assert_cast(self.stage, (1, 5, 0), "hurt 3 on self; blink on all; pull 1 on foes; set ice on self", [(2, 3, 0, 10)], [1], 1)
        self.assert_cast(self.stage, (1, 5, 0), "hurt 3 on self; blink on all; heal 1 on self", [(1, 5, 0, 1)])
        self.assert_cast(self.stage, (1, 5, 0), "hurt 3 on self; set wall on self", gone=[1])
        self.assert_cast(self.stage, (1, 5, 0), "hurt 3 on self; hurt 1 on friends", [(3, 4, 0, 9)], [1])

    def test_it_is_gone_afterwards(self):
        stage = self.stage + [cast(1, 5, 0, "hurt 3 on self")]
        self.assertEqual(last(*stage, cast(1, 0, 0, "blink on all")), [-3])
        self.assertEqual(last(*stage, area(1, 0, 0, "all")), [-3])
        self.assertEqual(pairs(last(*stage, area(2, 0, 0, "beings"))), [(2, 0), (4, 0)])
        self.assertEqual(last(*stage, being(0, 0)), [0, 4])


class Tries(CastCase):
    stage = [drawn("..^.", "~..*", "...."), being(0, 0, mana=3000), being(2, 2, life=4, most=9, side=1), being(3, 2, life=1, mana=0)]
    spells = (
        "hurt 3 on all", "heal 4 on all", "hurt 99 on foes", "push 2 on all", "pull 1 on foes", "set wall on all", "blink on all",
        "set ice on not target; blink on all; hurt 1 on beings; push 1 on foes when ice", "hurt 99 on all", "hurt 99 on self",
    )

    def test_it_answers_what_cast_would(self):
        for words in self.spells:
            for x, y in ((1, 1), (2, 0), (3, 1), (2, 2)):
                tried = last(*self.stage, attempt(1, x, y, words))
                self.assertEqual(tried[0], 0)
                self.assertEqual(tried, last(*self.stage, cast(1, x, y, words)))
                self.assertEqual(run(*self.stage, attempt(1, x, y, words), cast(1, x, y, words))[-2:], [tried, tried])
                self.assertEqual(last(*self.stage, attempt(1, x, y, words), attempt(1, x, y, words)), tried)

    def test_nothing_changes(self):
        stage = [self.stage[0], being(0, 0, mana=25), *self.stage[2:]]
        before = seen(*stage)
        for words in ("hurt 3 on all & foes", "hurt 10 on self", "hurt 25 on self", "set fire on target", "blink on all",
                      "hurt 3 on target; blink on all; set fire on self; set wall on target", "hurt 1 on all"):
            tried = attempt(1, 1, 1, words)
            self.assertEqual(last(*stage, tried)[0], 0)
            self.assertEqual(seen(*stage, tried), before)
            self.assertEqual(last(*stage, tried, being(0, 1)), [0, 4])

    def test_refusals_are_those_of_cast(self):
        for number, x, y, words in (
            (4, 0, 0, "blink on all"), (1, 4, 0, "blink on all"), (1, 0, 0, "blink"), (3, 0, 0, "blink on all"), (0, 0, 0, "blink on all"),
            (1, 12, 0, "blink on all"), (1, 0, 0, [256]), (4, 0, 0, "blink"), (3, 0, 0, "blink"),
        ):
            tried = last(*self.stage, attempt(number, x, y, words))
            self.assertEqual(len(tried), 1)
            self.assertEqual(tried, last(*self.stage, cast(number, x, y, words)))


if __name__ == "__main__":
    unittest.main()
