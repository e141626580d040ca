"""The calls on a level, and their answers."""

from spellareas.areas import area_cells
from spellareas.casting import cast_spell, changed_beings, changed_cells, gone_beings
from spellareas.costs import spell_cost
from spellareas.printing import spell_form
from spellareas.reading import Fault, read_lone_area, read_spell
from spellareas.world import MOST_BEINGS, Aim, Being, Level, copy_of_level

OPEN_LEVEL = 0
PUT_BEING = 1
CHECK = 2
PRINT = 3
COST = 4
CAST = 5
TRY = 6

OUT_OF_RANGE = -1
NO_LEVEL = -2
NOT_THERE = -3
NOT_FREE = -4
FAULTY = -4
TOO_MANY_BEINGS = -5
TOO_LITTLE_MANA = -6

MOST_BYTES = 300

# Of each call, by its place: the ranges of its numbers, and the range of its row's numbers (None: it has no row).
CALLS = (
    # open: w, h; grounds
    (((2, 12), (2, 12)), (0, 4)),
    # being: x, y, life, most, mana, side
    (((0, 11), (0, 11), (1, 1000), (1, 1000), (0, 1000000), (0, 3)), None),
    # check, print, cost: a text
    ((), (0, 255)),
    ((), (0, 255)),
    ((), (0, 255)),
    # cast, try, area: a being, x, y; a text
    (((1, 1000), (0, 11), (0, 11)), (0, 255)),
    (((1, 1000), (0, 11), (0, 11)), (0, 255)),
    (((1, 1000), (0, 11), (0, 11)), (0, 255)),
)


class Table:
    """What the calls are made on: the level that's open, or None."""

    def __init__(self):
        self.level = None


def answers(calls):
    """The answers to the calls, each with how many numbers it has before it."""
    table = Table()
    told = []
    at = 0
    while at < len(calls):
        place = calls[at]
        numbers_end = at + 1 + len(CALLS[place][0])
        numbers = calls[at + 1:numbers_end]
        row = []
        at = numbers_end
        if CALLS[place][1] is not None:
            at = numbers_end + 1 + calls[numbers_end]
            row = calls[numbers_end + 1:at]
        answer = answer_to(table, place, numbers, row)
        told.append(len(answer))
        told.extend(answer)
    return told


def answer_to(table, place, numbers, row):
    if not is_in_range(place, numbers, row):
        return [OUT_OF_RANGE]
    if place == OPEN_LEVEL:
        table.level = Level(numbers[0], numbers[1], row)
        return [0]
    if table.level is None:
        return [NO_LEVEL]
    if place == PUT_BEING:
        return put_being(table.level, numbers)
    if place == CHECK:
        return check_text(row)
    if place == PRINT:
        return print_text(row)
    if place == COST:
        return tell_cost(table.level, row)
    if place == CAST:
        return cast_text(table, numbers, row, True)
    if place == TRY:
        return cast_text(table, numbers, row, False)
    return tell_area(table.level, numbers, row)


def is_in_range(place, numbers, row):
    ranges = CALLS[place][0]
    for k in range(len(numbers)):
        if not is_within(numbers[k], ranges[k]):
            return False
    if place == PUT_BEING:
        return numbers[2] <= numbers[3]
    if place == OPEN_LEVEL:
        if len(row) != numbers[0] * numbers[1]:
            return False
    elif len(row) > MOST_BYTES:
        return False
    return all([is_within(number, CALLS[place][1]) for number in row])


def is_within(number, bounds):
    return bounds[0] <= number <= bounds[1]


def as_row(numbers):
    return [len(numbers)] + numbers


def spell_of(text):
    """The spell's steps, or None if the text has a fault."""
    try:
        return read_spell(text)
    except Fault:
        return None


def area_of(text):
    """The area, or None if the text has a fault."""
    try:
        return read_lone_area(text)
    except Fault:
        return None


def aim_of(level, numbers):
    """The aim told by a being's number and a target's x and y, or None if one of them isn't there."""
    caster = level.being_numbered(numbers[0])
    if caster is None or not level.holds(numbers[1], numbers[2]):
        return None
    return Aim(level, caster, numbers[1], numbers[2])


def put_being(level, numbers):
    x = numbers[0]
    y = numbers[1]
    if not level.holds(x, y):
        return [NOT_THERE]
    if not level.is_free(x, y):
        return [NOT_FREE]
    if len(level.beings) == MOST_BEINGS:
        return [TOO_MANY_BEINGS]
    number = level.next_number
    level.beings.append(Being(number, x, y, numbers[2], numbers[3], numbers[4], numbers[5]))
    level.next_number = number + 1
    return [0, number]


def check_text(text):
    try:
        read_spell(text)
    except Fault as fault:
        return [0, fault.number, fault.place]
    return [0, 0, 0]


def print_text(text):
    steps = spell_of(text)
    if steps is None:
        return [FAULTY]
    return [0] + as_row([ord(sign) for sign in spell_form(steps)])


def tell_cost(level, text):
    steps = spell_of(text)
    if steps is None:
        return [FAULTY]
    return [0, spell_cost(steps, level.width, level.height)]


def cast_text(table, numbers, text, is_kept):
    """Cast on a copy of the level, which then takes the level's place if it's to be kept."""
    level = copy_of_level(table.level)
    aim = aim_of(level, numbers)
    if aim is None:
        return [NOT_THERE]
    steps = spell_of(text)
    if steps is None:
        return [FAULTY]
    cost = spell_cost(steps, level.width, level.height)
    if aim.caster.mana < cost:
        return [TOO_LITTLE_MANA]
    cast_spell(aim, steps, cost)
    changed = as_row(changed_beings(table.level, level))
    gone = as_row(gone_beings(table.level, level))
    answer = [0, cost] + changed + gone + [changed_cells(table.level, level)]
    if is_kept:
        table.level = level
    return answer


def tell_area(level, numbers, text):
    aim = aim_of(level, numbers)
    if aim is None:
        return [NOT_THERE]
    area = area_of(text)
    if area is None:
        return [FAULTY]
    cells = area_cells(area, aim)
    told = []
    for cell in range(len(cells)):
        if cells[cell]:
            told.extend([cell % level.width, cell // level.width])
    return [0] + as_row(told)
