"""The calls on a level, and their answers."""

from spellareas.areas import area_cells
from spellareas.casting import cast_spell, changed_beings, changed_cells, gone_beings
from spellareas.costs import area_bound, spell_cost
from spellareas.exchange import exchanges
from spellareas.printing import spell_form
from spellareas.reading import Fault, read_lone_area, read_spell
from spellareas.simpler import simpler_spell
from spellareas.world import MOST_BEINGS, Aim, Being, Level, copy_of_level

OPEN_LEVEL = 0
PUT_BEING = 1
CHECK = 2
PRINT = 3
COST = 4
CAST = 5
TRY = 6
BOUND = 8
APART = 9
UNDO = 11
WHO = 12
GROUND = 13

OUT_OF_RANGE = -1
NO_LEVEL = -2
NOT_THERE = -3
NOT_FREE = -4
FAULTY = -4
TOO_MANY_BEINGS = -5
TOO_LITTLE_MANA = -6
NOTHING_TO_UNDO = -8

MOST_BYTES = 300
MOST_UNDONE = 20

# Of each call, by its place: the ranges of its numbers, and the range of its row's numbers (None: it has no row).
CALLS = (
    # open: w, h; grounds
    (((2, 12), (2, 12)), (0, 4)),
    # being: x, y, life, most, mana, side
    (((0, 11), (0, 11), (1, 1000), (1, 1000), (0, 1000000), (0, 3)), None),
    # check, print, cost: a text
    ((), (0, 255)),
    ((), (0, 255)),
    ((), (0, 255)),
    # cast, try, area: a being, x, y; a text
    (((1, 1000), (0, 11), (0, 11)), (0, 255)),
    (((1, 1000), (0, 11), (0, 11)), (0, 255)),
    (((1, 1000), (0, 11), (0, 11)), (0, 255)),
    # bound, apart, tidy: a text
    ((), (0, 255)),
    ((), (0, 255)),
    ((), (0, 255)),
    # undo
    ((), None),
    # who: a being
    (((1, 1000),), None),
    # ground, level
    ((), None),
    ((), None),
)


class Table:
    """What the calls are made on: the level that's open, or None; and it as it was before each of the last casts."""

    def __init__(self):
        self.level = None
        self.earlier = []


def answers(calls):
    """The answers to the calls, each with how many numbers it has before it."""
    table = Table()
    told = []
    at = 0
    while at < len(calls):
        place = calls[at]
        numbers_end = at + 1 + len(CALLS[place][0])
        numbers = calls[at + 1:numbers_end]
        row = []
        at = numbers_end
        if CALLS[place][1] is not None:
            at = numbers_end + 1 + calls[numbers_end]
            row = calls[numbers_end + 1:at]
        answer = answer_to(table, place, numbers, row)
        told.append(len(answer))
        told.extend(answer)
    return told


def answer_to(table, place, numbers, row):
    if not is_in_range(place, numbers, row):
        return [OUT_OF_RANGE]
    if place == OPEN_LEVEL:
        return start_level(table, numbers, row)
    if table.level is None:
        return [NO_LEVEL]
    if CALLS[place][1] is None:
        return answer_without_text(table, place, numbers)
    if numbers:
        return answer_to_aim(table, place, numbers, row)
    return answer_to_text(table.level, place, row)


def answer_without_text(table, place, numbers):
    if place == PUT_BEING:
        return put_being(table, numbers)
    if place == UNDO:
        return undo_cast(table)
    if place == WHO:
        return tell_being(table.level, numbers[0])
    if place == GROUND:
        return [0] + as_row(table.level.ground)
    return tell_level(table)


def answer_to_aim(table, place, numbers, text):
    if place == CAST:
        return cast_text(table, numbers, text, True)
    if place == TRY:
        return cast_text(table, numbers, text, False)
    return tell_area(table.level, numbers, text)


def answer_to_text(level, place, text):
    if place == CHECK:
        return check_text(text)
    if place == BOUND:
        return tell_bound(level, text)
    steps = spell_of(text)
    if steps is None:
        return [FAULTY]
    if place == PRINT:
        return [0] + form_row(steps)
    if place == COST:
        return [0, spell_cost(steps, level.width, level.height)]
    if place == APART:
        return [0] + as_row(exchanges(steps))
    return [0] + form_row(simpler_spell(steps))


def is_in_range(place, numbers, row):
    ranges = CALLS[place][0]
    for k in range(len(numbers)):
        if not is_within(numbers[k], ranges[k]):
            return False
    if place == PUT_BEING:
        return numbers[2] <= numbers[3]
    if place == OPEN_LEVEL and len(row) != numbers[0] * numbers[1]:
        return False
    if len(row) > MOST_BYTES:
        return False
    return all([is_within(number, CALLS[place][1]) for number in row])


def is_within(number, bounds):
    return bounds[0] <= number <= bounds[1]


def as_row(numbers):
    return [len(numbers)] + numbers


def spell_of(text):
    """The spell's steps, or None if the text has a fault."""
    try:
        return read_spell(text)
    except Fault:
        return None


def area_of(text):
    """The area, or None if the text has a fault."""
    try:
        return read_lone_area(text)
    except Fault:
        return None


def aim_of(level, numbers):
    """The aim told by a being's number and a target's x and y, or None if one of them isn't there."""
    caster = level.being_numbered(numbers[0])
    if caster is None or not level.holds(numbers[1], numbers[2]):
        return None
    return Aim(level, caster, numbers[1], numbers[2])


def start_level(table, numbers, ground):
    table.level = Level(numbers[0], numbers[1], ground)
    table.earlier = []
    return [0]


def put_being(table, numbers):
    level = table.level
    x = numbers[0]
    y = numbers[1]
    if not level.holds(x, y):
        return [NOT_THERE]
    if not level.is_free(x, y):
        return [NOT_FREE]
    if len(level.beings) == MOST_BEINGS:
        return [TOO_MANY_BEINGS]
    number = level.next_number
    level.beings.append(Being(number, x, y, numbers[2], numbers[3], numbers[4], numbers[5]))
    level.next_number = number + 1
    table.earlier = []
    return [0, number]


def check_text(text):
    try:
        read_spell(text)
    except Fault as fault:
        return [0, fault.number, fault.place]
    return [0, 0, 0]


def form_row(steps):
    return as_row([ord(sign) for sign in spell_form(steps)])


def tell_bound(level, text):
    area = area_of(text)
    if area is None:
        return [FAULTY]
    return [0, area_bound(area, level.width, level.height)]


def cast_text(table, numbers, text, is_kept):
    """Cast on a copy of the level, which then takes the level's place if it's to be kept."""
    level = copy_of_level(table.level)
    aim = aim_of(level, numbers)
    if aim is None:
        return [NOT_THERE]
    steps = spell_of(text)
    if steps is None:
        return [FAULTY]
    cost = spell_cost(steps, level.width, level.height)
    if aim.caster.mana < cost:
        return [TOO_LITTLE_MANA]
    cast_spell(aim, steps, cost)
    changed = as_row(changed_beings(table.level, level))
    gone = as_row(gone_beings(table.level, level))
    answer = [0, cost] + changed + gone + [changed_cells(table.level, level)]
    if is_kept:
        table.earlier = (table.earlier + [table.level])[-MOST_UNDONE:]
        table.level = level
    return answer


def tell_area(level, numbers, text):
    aim = aim_of(level, numbers)
    if aim is None:
        return [NOT_THERE]
    area = area_of(text)
    if area is None:
        return [FAULTY]
    cells = area_cells(area, aim)
    told = []
    for cell in range(len(cells)):
        if cells[cell]:
            told.extend([cell % level.width, cell // level.width])
    return [0] + as_row(told)


def undo_cast(table):
    if not table.earlier:
        return [NOTHING_TO_UNDO]
    table.level = table.earlier.pop()
    return [0]


def tell_being(level, number):
    being = level.being_numbered(number)
    if being is None:
        return [NOT_THERE]
    return [0] + being_numbers(being)


def being_numbers(being):
    return [being.x, being.y, being.life, being.most, being.mana, being.side]


def tell_level(table):
    level = table.level
    told = []
    for being in level.beings:
        told.extend([being.number] + being_numbers(being))
    return [0, level.width, level.height, level.next_number, len(table.earlier)] + as_row(told)
