"""Levels and the beings on them."""

from spellareas.spell import WALL

MOST_BEINGS = 8


class Being:
    """A being of a level."""

    def __init__(self, number, x, y, life, most, mana, side):
        self.number = number
        self.x = x
        self.y = y
        self.life = life
        self.most = most
        self.mana = mana
        self.side = side


class Level:
    """A level: its cells' grounds in order, its beings in order, the next being's number."""

    def __init__(self, width, height, ground):
        self.width = width
        self.height = height
        self.ground = ground
        self.beings = []
        self.next_number = 1

    def cell(self, x, y):
        """The cell's place among the cells in order."""
        return y * self.width + x

    def holds(self, x, y):
        return 0 <= x < self.width and 0 <= y < self.height

    def being_in(self, cell):
        """The being that stands in the cell with this place, or None."""
        for being in self.beings:
            if self.cell(being.x, being.y) == cell:
                return being
        return None

    def being_numbered(self, number):
        for being in self.beings:
            if being.number == number:
                return being
        return None

    def is_free(self, x, y):
        """Whether a being may come to stand there."""
        if not self.holds(x, y):
            return False
        cell = self.cell(x, y)
        return self.ground[cell] != WALL and self.being_in(cell) is None


class Aim:
    """Who casts at which target, on which level."""

    def __init__(self, level, caster, x, y):
        self.level = level
        self.caster = caster
        self.x = x
        self.y = y


def copy_of_being(being):
    return Being(being.number, being.x, being.y, being.life, being.most, being.mana, being.side)


def copy_of_level(level):
    """A level that changes without the other one changing."""
    copied = Level(level.width, level.height, list(level.ground))
    copied.beings = [copy_of_being(being) for being in level.beings]
    copied.next_number = level.next_number
    return copied
