"""What a spell's steps do to a level, and what is told of it."""

from spellareas.areas import area_cells
from spellareas.spell import WALL


def cast_spell(aim, steps, cost):
    """Cast the spell: aim's level and beings change."""
    aim.caster.mana -= cost
    for step in steps:
        if step.when is None or any(area_cells(step.when, aim)):
            do_step(aim, step)
    settle_lives(aim.level)


def do_step(aim, step):
    cells = area_cells(step.area, aim)
    if step.act == "set":
        set_ground(aim.level, cells, step.amount)
    elif step.act == "blink":
        blink(aim, cells)
    else:
        touch_beings(aim, cells, step)


def touch_beings(aim, cells, step):
    level = aim.level
    touched = [being for being in level.beings if cells[level.cell(being.x, being.y)]]
    if step.act == "hurt":
        change_lives(touched, -step.amount)
    elif step.act == "heal":
        change_lives(touched, step.amount)
    elif step.act == "push":
        move_beings(aim, touched, step.amount, 1)
    else:
        move_beings(aim, touched, step.amount, -1)


def change_lives(beings, change):
    for being in beings:
        being.life += change


def move_beings(aim, beings, most, way):
    """Move the beings off from the caster's cell if the way is 1, towards it if it's -1.

    The caster itself, even if it's among them, doesn't move: its way is (0, 0), to where it stands.
    """
    for being in beings:
        dx = way * sign(being.x - aim.caster.x)
        dy = way * sign(being.y - aim.caster.y)
        slide(aim.level, being, dx, dy, most)


def sign(number):
    if number > 0:
        return 1
    if number < 0:
        return -1
    return 0


def slide(level, being, dx, dy, most):
    moved = 0
    while moved < most and level.is_free(being.x + dx, being.y + dy):
        being.x += dx
        being.y += dy
        moved += 1


def set_ground(level, cells, kind):
    for cell in range(len(cells)):
        if cells[cell] and (kind != WALL or level.being_in(cell) is None):
            level.ground[cell] = kind


def blink(aim, cells):
    level = aim.level
    if cells[level.cell(aim.x, aim.y)] and level.is_free(aim.x, aim.y):
        aim.caster.x = aim.x
        aim.caster.y = aim.y


def settle_lives(level):
    level.beings = [being for being in level.beings if being.life > 0]
    for being in level.beings:
        being.life = min(being.life, being.most)


def changed_beings(before, after):
    """Number, x, y and life of each being that's there still and has another cell or life."""
    told = []
    for being in after.beings:
        old = before.being_numbered(being.number)
        if being.x != old.x or being.y != old.y or being.life != old.life:
            told.extend([being.number, being.x, being.y, being.life])
    return told


def gone_beings(before, after):
    return [being.number for being in before.beings if after.being_numbered(being.number) is None]


def changed_cells(before, after):
    """How many cells have another ground."""
    return len([cell for cell in range(len(before.ground)) if before.ground[cell] != after.ground[cell]])
