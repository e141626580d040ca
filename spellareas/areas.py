"""The cells that an area has, as a list that tells for each of a level's cells, in order, whether it's in."""

from spellareas.spell import GROUNDS, WALL, take_operands


def area_cells(area, aim):
    """The area's cells, as things stand now."""
    worked_out = []
    for word, size in area:
        operands = take_operands(worked_out, word)
        if operands:
            worked_out.append(operator_cells(word, operands, aim.level))
        else:
            worked_out.append(simple_cells(word, size, aim))
    return worked_out[0]


def operator_cells(word, operands, level):
    first = operands[0]
    if word == "not":
        return [not inside for inside in first]
    if word == "grow":
        return grown(first, level)
    second = operands[1]
    if word == "&":
        return [first[cell] and second[cell] for cell in range(len(first))]
    return [first[cell] or second[cell] for cell in range(len(first))]


def simple_cells(word, size, aim):
    level = aim.level
    if word == "all":
        return [True for ground in level.ground]
    if word in GROUNDS:
        return [ground == GROUNDS.index(word) for ground in level.ground]
    if word == "self":
        return cells_at_distance(level, aim.caster.x, aim.caster.y, 0, 0)
    if word == "target" or word == "ball":
        return cells_at_distance(level, aim.x, aim.y, 0, size)
    if word == "ring":
        return cells_at_distance(level, aim.x, aim.y, size, size)
    if word == "burst":
        return burst_cells(aim, size)
    if word == "line":
        return line_cells(aim)
    if word == "bolt":
        return bolt_cells(aim)
    return being_cells(word, aim)


def cells_at_distance(level, x, y, least, most):
    """The cells that are at least and at most so far from (x, y)."""
    width = level.width
    distances = [max(abs(cell % width - x), abs(cell // width - y)) for cell in range(len(level.ground))]
    return [least <= distance <= most for distance in distances]


def grown(cells, level):
    """The cells at most 1 far from one of these: spread along the rows first, then along the columns."""
    width = level.width
    last = width - 1
    count = len(cells)
    wide = [
        cells[k] or (k % width > 0 and cells[k - 1]) or (k % width < last and cells[k + 1])
        for k in range(count)
    ]
    return [
        wide[k] or (k >= width and wide[k - width]) or (k + width < count and wide[k + width])
        for k in range(count)
    ]


def burst_cells(aim, times):
    level = aim.level
    burst = cells_at_distance(level, aim.x, aim.y, 0, 0)
    for turn in range(times):
        reached = grown(burst, level)
        # The target stays in even if it's a wall.
        burst = [burst[cell] or (reached[cell] and level.ground[cell] != WALL) for cell in range(len(burst))]
    return burst


def line_cells(aim):
    width = aim.level.width
    return [is_on_line(aim, cell % width, cell // width) for cell in range(len(aim.level.ground))]


def is_on_line(aim, x, y):
    start_x = aim.caster.x
    start_y = aim.caster.y
    if x == start_x and y == start_y:
        return False
    if not min(start_x, aim.x) <= x <= max(start_x, aim.x):
        return False
    if not min(start_y, aim.y) <= y <= max(start_y, aim.y):
        return False
    dx = aim.x - start_x
    dy = aim.y - start_y
    aside = abs(dx * (y - start_y) - dy * (x - start_x))
    return 2 * aside < abs(dx) + abs(dy)


def bolt_cells(aim):
    level = aim.level
    line = line_cells(aim)
    count = len(line)
    onward = [how_onward(aim, cell % level.width, cell // level.width) for cell in range(count)]
    walls = [onward[cell] for cell in range(count) if line[cell] and level.ground[cell] == WALL]
    if not walls:
        return line
    first_wall = min(walls)
    return [line[cell] and onward[cell] < first_wall for cell in range(count)]


def how_onward(aim, x, y):
    """A number that grows along the way from the caster to the target."""
    start_x = aim.caster.x
    start_y = aim.caster.y
    return (aim.x - start_x) * (x - start_x) + (aim.y - start_y) * (y - start_y)


def being_cells(word, aim):
    cells = [False for ground in aim.level.ground]
    for being in aim.level.beings:
        is_friend = being.side == aim.caster.side
        if word == "beings" or (word == "friends") == is_friend:
            cells[aim.level.cell(being.x, being.y)] = True
    return cells
