"""Spells made simpler.

Two areas are written alike just if their lists are equal, so it's the lists that are compared.
"""

from spellareas.spell import Step, last_operands, take_operands


def simpler_spell(steps):
    return [simpler_step(step) for step in steps]


def simpler_step(step):
    when = None
    if step.when is not None:
        when = simpler_area(step.when)
    return Step(step.act, step.amount, simpler_area(step.area), when)


def simpler_area(area):
    worked_out = []
    for word, size in area:
        operands = take_operands(worked_out, word)
        worked_out.append(simpler_part(word, size, operands))
    return worked_out[0]


def simpler_part(word, size, operands):
    """The part made simpler, from its operands, which are so already."""
    if word == "not":
        return simpler_not(operands[0])
    if word == "grow":
        return simpler_grow(operands[0])
    if word == "&":
        return simpler_and(operands[0], operands[1])
    if word == "|":
        return simpler_or(operands[0], operands[1])
    return [(word, size)]


def simpler_not(area):
    if area[-1][0] == "not":
        return area[:-1]
    return area + [("not", 0)]


def simpler_grow(area):
    if is_all(area):
        return area
    return area + [("grow", 0)]


def simpler_and(left, right):
    if is_all(left) or left == right:
        return right
    if is_all(right) or joins(right, "|", left):
        return left
    return left + right + [("&", 0)]


def simpler_or(left, right):
    if is_all(right):
        return right
    if is_all(left) or left == right or joins(right, "&", left):
        return left
    return left + right + [("|", 0)]


def is_all(area):
    return area == [("all", 0)]


def joins(area, word, operand):
    """Whether the area is joined by the word at last, and this is one of the two operands."""
    return area[-1][0] == word and operand in last_operands(area)
