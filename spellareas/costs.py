"""What a spell costs, told from its text and the level's width and height."""

from spellareas.spell import GROUNDS, take_operands
from spellareas.world import MOST_BEINGS

BLINK_COST = 5
WHEN_COST = 1
SET_PRICE = 3


def spell_cost(steps, width, height):
    return sum([step_cost(step, width, height) for step in steps])


def step_cost(step, width, height):
    cost = BLINK_COST
    if step.act != "blink":
        cost = price(step) * area_bound(step.area, width, height)
    if step.when is not None:
        cost += WHEN_COST
    return cost


def price(step):
    if step.act == "set":
        return SET_PRICE
    if step.act == "hurt":
        return step.amount
    return 2 * step.amount


def area_bound(area, width, height):
    bounds = []
    for word, size in area:
        operands = take_operands(bounds, word)
        if operands:
            bounds.append(operator_bound(word, operands, width * height))
        else:
            bounds.append(simple_bound(word, size, width, height))
    return bounds[0]


def operator_bound(word, operands, cells):
    if word == "not":
        return cells
    if word == "grow":
        return min(9 * operands[0], cells)
    if word == "&":
        return min(operands[0], operands[1])
    return min(operands[0] + operands[1], cells)


def simple_bound(word, size, width, height):
    cells = width * height
    if word == "all" or word in GROUNDS:
        return cells
    if word == "line" or word == "bolt":
        return min(width + height, cells)
    if word == "ring" and size > 0:
        return min(8 * size, cells)
    if word == "beings" or word == "foes" or word == "friends":
        return min(MOST_BEINGS, cells)
    # Of the rest, self, target and ring 0 have the size 0, and so the bound 1.
    reach = 2 * size + 1
    return min(width, reach) * min(height, reach)
