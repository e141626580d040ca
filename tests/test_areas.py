"""The cells of areas."""

import unittest

from helper import area, being, cast, drawn, last, open_level, pairs

GROUNDS = ("wall", "floor", "water", "ice", "fire")


def marked(*rows):
    """The cells that are marked with x, in order."""
    return [(x, y) for y, line in enumerate(rows) for x, sign in enumerate(line) if sign == "x"]


def far(a, b):
    return max(abs(a[0] - b[0]), abs(a[1] - b[1]))


def every_cell(width, height):
    return [(x, y) for y in range(height) for x in range(width)]


class AreaCase(unittest.TestCase):
    def cells(self, rows, caster, target, words, others=()):
        calls = [drawn(*rows), being(*caster), *others]
        return pairs(last(*calls, area(1, *target, words)))

    def assert_area(self, rows, caster, target, words, *expected, others=()):
        self.assertEqual(self.cells(rows, caster, target, words, others), marked(*expected), words)


FIELD = ("......", "......", "......", "......")


class SimpleAreas(AreaCase):
    def test_self_and_target(self):
        for caster in every_cell(6, 4):
            for target in ((0, 0), (5, 0), (0, 3), (5, 3), (2, 1), caster):
                self.assertEqual(self.cells(FIELD, caster, target, "self"), [caster])
                self.assertEqual(self.cells(FIELD, caster, target, "target"), [target])

    def test_target_may_be_a_wall(self):
        self.assertEqual(self.cells(("..#", "..."), (0, 0), (2, 0), "target"), [(2, 0)])

    def test_all(self):
        self.assertEqual(self.cells(FIELD, (3, 1), (0, 0), "all"), every_cell(6, 4))
        self.assertEqual(self.cells((".#", "^~"), (0, 0), (0, 0), "all"), [(0, 0), (1, 0), (0, 1), (1, 1)])

    def test_an_area_may_have_no_cells(self):
        self.assertEqual(last(drawn(*FIELD), being(0, 0), area(1, 1, 1, "fire")), [0, 0])

    def test_grounds(self):
        rows = (".#~*^", "^*~#.", "^^..#")
        for number, word in enumerate(GROUNDS):
            sign = "#.~*^"[number]
            expected = ["".join("x" if each == sign else "." for each in line) for line in rows]
            self.assert_area(rows, (0, 0), (4, 2), word, *expected)

    def test_ball_and_ring(self):
        for width, height in ((12, 12), (12, 3), (2, 2), (5, 7)):
            rows = ["." * width] * height
            corners = [(0, 0), (width - 1, 0), (0, height - 1), (width - 1, height - 1)]
            for target in corners + [(width // 2, height // 2), (0, height // 2)]:
                for size in (0, 1, 2, 8, 9):
                    ball = [cell for cell in every_cell(width, height) if far(cell, target) <= size]
                    ring = [cell for cell in every_cell(width, height) if far(cell, target) == size]
                    self.assertEqual(self.cells(rows, (1, 1), target, "ball %d" % size), ball)
                    self.assertEqual(self.cells(rows, (1, 1), target, "ring %d" % size), ring)

    def test_balls_and_rings_drawn(self):
        self.assert_area(FIELD, (5, 3), (1, 1), "ball 1", "xxx...", "xxx...", "xxx...", "......")
        self.assert_area(FIELD, (5, 3), (1, 1), "ring 1", "xxx...", "x.x...", "xxx...", "......")
        self.assert_area(FIELD, (5, 3), (1, 1), "ring 2", "...x..", "...x..", "...x..", "xxxx..")
        self.assert_area(FIELD, (5, 3), (0, 0), "ball 0", "x.....", "......", "......", "......")
        self.assert_area(FIELD, (5, 3), (0, 0), "ring 0", "x.....", "......", "......", "......")
        self.assert_area(FIELD, (5, 3), (0, 0), "ring 9", "......", "......", "......", "......")

    def test_walls_do_not_stop_balls(self):
        self.assert_area(("#####", "##.##", "#####"), (2, 1), (2, 1), "ball 1", ".xxx.", ".xxx.", ".xxx.")

    def test_sides(self):
        others = [being(1, 0, side=1), being(2, 1, side=0), being(5, 3, side=2), being(0, 3, side=3), being(4, 1, side=1)]
        self.assert_area(FIELD, (0, 0), (3, 3), "beings", "xx....", "..x.x.", "......", "x....x", others=others)
        self.assert_area(FIELD, (0, 0), (3, 3), "friends", "x.....", "..x...", "......", "......", others=others)
        self.assert_area(FIELD, (0, 0), (3, 3), "foes", ".x....", "....x.", "......", "x....x", others=others)
        calls = [drawn(*FIELD), being(0, 0), *others]
        self.assertEqual(pairs(last(*calls, area(2, 0, 0, "friends"))), [(1, 0), (4, 1)])
        self.assertEqual(pairs(last(*calls, area(2, 0, 0, "foes"))), [(0, 0), (2, 1), (0, 3), (5, 3)])
        self.assertEqual(pairs(last(*calls, area(4, 0, 0, "friends"))), [(5, 3)])
        self.assertEqual(pairs(last(*calls, area(4, 0, 0, "self"))), [(5, 3)])

    def test_alone(self):
        self.assertEqual(self.cells(FIELD, (2, 2), (0, 0), "foes"), [])
        self.assertEqual(self.cells(FIELD, (2, 2), (0, 0), "friends"), [(2, 2)])
        self.assertEqual(self.cells(FIELD, (2, 2), (0, 0), "beings"), [(2, 2)])

    def test_a_being_that_is_gone_stands_nowhere(self):
        calls = [drawn(*FIELD), being(0, 0), being(1, 1, life=1, side=1), cast(1, 1, 1, "hurt 1 on target")]
        self.assertEqual(pairs(last(*calls, area(1, 0, 0, "beings"))), [(0, 0)])
        self.assertEqual(pairs(last(*calls, area(1, 0, 0, "foes"))), [])


class Lines(AreaCase):
    def test_eight_directions(self):
        rows = ["......."] * 7
        for dx in (-1, 0, 1):
            for dy in (-1, 0, 1):
                for count in (1, 2, 3):
                    target = (3 + count * dx, 3 + count * dy)
                    way = [(3 + step * dx, 3 + step * dy) for step in range(1, count + 1)]
                    expected = sorted(way, key=lambda cell: (cell[1], cell[0])) if dx or dy else []
                    self.assertEqual(self.cells(rows, (3, 3), target, "line"), expected)
                    self.assertEqual(self.cells(rows, (3, 3), target, "bolt"), expected)

    def test_in_the_same_cell(self):
        for cell in ((0, 0), (5, 3), (2, 2)):
            self.assertEqual(self.cells(FIELD, cell, cell, "line"), [])
            self.assertEqual(self.cells(FIELD, cell, cell, "bolt"), [])

    def test_from_corner_to_corner(self):
        self.assert_area(FIELD, (0, 0), (5, 0), "line", ".xxxxx", "......", "......", "......")
        self.assert_area(FIELD, (5, 0), (5, 3), "line", "......", ".....x", ".....x", ".....x")
        self.assert_area(FIELD, (5, 3), (0, 3), "line", "......", "......", "......", "xxxxx.")
        self.assert_area(FIELD, (0, 3), (0, 0), "line", "x.....", "x.....", "x.....", "......")

    def test_between_the_directions(self):
        # (0, 0) to (4, 2): the size of 4y - 2x is below 3.
        self.assert_area((".....",) * 3, (0, 0), (4, 2), "line", ".x...", ".xxx.", "...xx")
        self.assert_area((".....",) * 3, (4, 2), (0, 0), "line", "xx...", ".xxx.", "...x.")
        self.assert_area((".....",) * 3, (4, 0), (0, 2), "line", "...x.", ".xxx.", "xx...")
        self.assert_area((".....",) * 3, (0, 2), (4, 0), "line", "...xx", ".xxx.", ".x...")
        # (0, 0) to (3, 1): the size of 3y - x is below 2.
        self.assert_area(("....",) * 2, (0, 0), (3, 1), "line", ".x..", "..xx")
        self.assert_area(("....",) * 2, (3, 1), (0, 0), "line", "xx..", "..x.")
        # (0, 0) to (1, 3) and its mirrors.
        self.assert_area(("..",) * 4, (0, 0), (1, 3), "line", "..", "x.", ".x", ".x")
        self.assert_area(("..",) * 4, (1, 0), (0, 3), "line", "..", ".x", "x.", "x.")
        self.assert_area(("..",) * 4, (1, 3), (0, 0), "line", "x.", "x.", ".x", "..")
        self.assert_area(("..",) * 4, (0, 3), (1, 0), "line", ".x", ".x", "x.", "..")
        # (0, 0) to (2, 1): the size of 2y - x is below 1 and a half.
        self.assert_area(("...",) * 2, (0, 0), (2, 1), "line", ".x.", ".xx")
        # (0, 0) to (5, 3): the size of 5y - 3x is below 4.
        self.assert_area(FIELD, (0, 0), (5, 3), "line", ".x....", ".xx...", "...xx.", "....xx")

    def test_walls_do_not_stop_lines(self):
        self.assert_area(("..#.#", "#####"), (0, 0), (4, 0), "line", ".xxxx", ".....")

    def test_bolts_and_walls(self):
        self.assert_area(("...#..", "......"), (0, 0), (5, 0), "bolt", ".xx...", "......")
        self.assert_area(("...#.#", "......"), (0, 0), (5, 0), "bolt", ".xx...", "......")
        self.assert_area((".....#", "......"), (0, 0), (5, 0), "bolt", ".xxxx.", "......")
        self.assert_area((".#....", "......"), (0, 0), (5, 0), "bolt", "......", "......")
        self.assert_area(("...#..", "......"), (5, 0), (0, 0), "bolt", "....x.", "......")
        self.assert_area(("......", "######"), (0, 0), (5, 0), "bolt", ".xxxxx", "......")
        self.assert_area(("~*^...", "......"), (5, 0), (0, 0), "bolt", "xxxxx.", "......")
        self.assert_area(("..", "..", "#.", ".."), (0, 0), (0, 3), "bolt", "..", "x.", "..", "..")
        self.assert_area(("..", "#.", "..", ".."), (0, 3), (0, 0), "bolt", "..", "..", "x.", "..")
        self.assert_area(("....", "....", "..#.", "...."), (0, 0), (3, 3), "bolt", "....", ".x..", "....", "....")
        self.assert_area(("....", ".#..", "....", "...."), (3, 3), (0, 0), "bolt", "....", "....", "..x.", "....")

    def test_bolts_between_the_directions(self):
        # On the way from (0, 0) to (4, 2): (1, 0), (1, 1), (2, 1), (3, 1), (3, 2), (4, 2), in this order.
        self.assert_area((".....", "..#..", "....."), (0, 0), (4, 2), "bolt", ".x...", ".x...", ".....")
        self.assert_area((".....", ".#...", "....."), (0, 0), (4, 2), "bolt", ".x...", ".....", ".....")
        self.assert_area((".#...", ".....", "....."), (0, 0), (4, 2), "bolt", ".....", ".....", ".....")
        self.assert_area((".....", ".....", "...#."), (0, 0), (4, 2), "bolt", ".x...", ".xxx.", ".....")
        self.assert_area((".....", ".....", "...#."), (4, 2), (0, 0), "bolt", ".....", ".....", ".....")
        self.assert_area((".....", ".#...", "....."), (4, 2), (0, 0), "bolt", ".....", "..xx.", "...x.")
        # Walls that are not of the line do not count.
        self.assert_area(("..###", "#...#", "###.."), (0, 0), (4, 2), "bolt", ".x...", ".xxx.", "...xx")


class Bursts(AreaCase):
    def test_nought(self):
        for target in ((0, 0), (5, 3), (2, 1)):
            self.assertEqual(self.cells(FIELD, (1, 1), target, "burst 0"), [target])
        self.assertEqual(self.cells(("..", ".#"), (0, 0), (1, 1), "burst 0"), [(1, 1)])

    def test_without_walls_it_is_a_ball(self):
        for target in ((0, 0), (5, 3), (2, 1)):
            for size in (0, 1, 2, 9):
                burst = self.cells(FIELD, (1, 1), target, "burst %d" % size)
                self.assertEqual(burst, self.cells(FIELD, (1, 1), target, "ball %d" % size))

    def test_round_walls(self):
        rows = ("..#..", "..#..", "..#..", ".....")
        self.assert_area(rows, (0, 0), (1, 0), "burst 1", "xx...", "xx...", ".....", ".....")
        self.assert_area(rows, (0, 0), (1, 0), "burst 2", "xx...", "xx...", "xx...", ".....")
        self.assert_area(rows, (0, 0), (1, 0), "burst 3", "xx...", "xx...", "xx...", "xxx..")
        self.assert_area(rows, (0, 0), (1, 0), "burst 4", "xx...", "xx...", "xx.x.", "xxxx.")
        self.assert_area(rows, (0, 0), (1, 0), "burst 5", "xx...", "xx.xx", "xx.xx", "xxxxx")
        self.assert_area(rows, (0, 0), (1, 0), "burst 6", "xx.xx", "xx.xx", "xx.xx", "xxxxx")
        self.assert_area(rows, (0, 0), (1, 0), "burst 9", "xx.xx", "xx.xx", "xx.xx", "xxxxx")

    def test_between_walls_at_their_corners(self):
        self.assert_area((".#.", "#..", "..."), (2, 2), (0, 0), "burst 1", "x..", ".x.", "...")
        self.assert_area((".##", "##.", "..."), (2, 2), (0, 0), "burst 9", "x..", "...", "...")

    def test_the_target_is_a_wall(self):
        self.assert_area(("###", "###", ".#."), (0, 2), (1, 0), "burst 9", ".x.", "...", "...")
        self.assert_area((".#.", ".#.", ".#."), (0, 2), (1, 1), "burst 1", "x.x", "xxx", "x.x")
        self.assert_area(("#..", "##.", "..."), (2, 2), (0, 0), "burst 2", "xxx", "..x", "...")

    def test_other_grounds_and_beings_do_not_stop_it(self):
        rows = (".~*^.", ".....")
        others = [being(2, 0, side=1)]
        self.assert_area(rows, (1, 0), (0, 0), "burst 4", "xxxxx", "xxxxx", others=others)


class JoinedAreas(AreaCase):
    def test_not(self):
        self.assert_area(("..", ".."), (0, 0), (1, 1), "not self", ".x", "xx")
        self.assert_area(("..", ".."), (0, 0), (1, 1), "not all", "..", "..")
        self.assert_area(("..", ".."), (0, 0), (1, 1), "not ice", "xx", "xx")
        self.assert_area(("#.", ".."), (1, 0), (1, 1), "not wall", ".x", "xx")
        self.assert_area(("..", ".."), (0, 0), (1, 1), "not not target", "..", ".x")

    def test_grow(self):
        for target in every_cell(6, 4):
            expected = [cell for cell in every_cell(6, 4) if far(cell, target) <= 1]
            self.assertEqual(self.cells(FIELD, (1, 1), target, "grow target"), expected)
            expected = [cell for cell in every_cell(6, 4) if far(cell, target) <= 2]
            self.assertEqual(self.cells(FIELD, (1, 1), target, "grow grow target"), expected)
        self.assert_area(FIELD, (5, 3), (0, 0), "grow (self | target)", "xx....", "xx....", "....xx", "....xx")
        self.assert_area(FIELD, (5, 1), (0, 0), "grow self", "....xx", "....xx", "....xx", "......")
        self.assert_area(FIELD, (0, 1), (0, 0), "grow self", "xx....", "xx....", "xx....", "......")
        self.assert_area(("###", "#.#", "###"), (1, 1), (0, 0), "grow self", "xxx", "xxx", "xxx")
        self.assertEqual(self.cells(FIELD, (0, 0), (0, 0), "grow ice"), [])
        self.assertEqual(self.cells(FIELD, (0, 0), (0, 0), "grow all"), every_cell(6, 4))

    def test_and_or(self):
        rows = ("^^..", "^#*.")
        self.assert_area(rows, (3, 0), (0, 0), "fire & ball 0", "x...", "....")
        self.assert_area(rows, (3, 0), (0, 0), "fire | self", "xx.x", "x...")
        self.assert_area(rows, (3, 0), (0, 0), "fire | ice & wall", "xx..", "x...")
        self.assert_area(rows, (3, 0), (0, 0), "(fire | ice) & ball 1", "xx..", "x...")
        self.assert_area(rows, (3, 0), (0, 0), "fire & ice", "....", "....")
        self.assert_area(rows, (3, 0), (0, 0), "all & fire", "xx..", "x...")
        self.assert_area(rows, (3, 0), (0, 0), "wall | all", "xxxx", "xxxx")
        self.assert_area(rows, (3, 0), (0, 0), "not fire & not wall", "..xx", "..xx")
        self.assert_area(rows, (3, 0), (0, 0), "not (fire | wall)", "..xx", "..xx")
        self.assert_area(rows, (3, 0), (0, 0), "not grow target & not self", "..x.", "..xx")
        self.assert_area(rows, (3, 0), (0, 0), "grow not (all & not target)", "xx..", "xx..")

    def test_the_area_call_changes_nothing(self):
        calls = [drawn(*FIELD), being(0, 0, mana=0)]
        self.assertEqual(last(*calls, area(1, 1, 1, "all"), area(1, 1, 1, "self")), [0, 2, 0, 0])

    def test_rows_of_cells_are_in_order(self):
        self.assertEqual(last(open_level(3, 2), being(0, 0), area(1, 1, 1, "all")),
                         [0, 12, 0, 0, 1, 0, 2, 0, 0, 1, 1, 1, 2, 1])


if __name__ == "__main__":
    unittest.main()
