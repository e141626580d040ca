"""The one form in which a spell is printed."""

from spellareas.spell import GROUNDS, SIZED_AREAS, take_operands

# How tightly an area holds together: an operand that does so less than its place asks stands in brackets.
JOINED_BY_OR = 1
JOINED_BY_AND = 2
UNIT = 3


def spell_form(steps):
    return "; ".join([step_form(step) for step in steps])


def step_form(step):
    form = act_form(step) + " on " + area_form(step.area)
    if step.when is not None:
        form = form + " when " + area_form(step.when)
    return form


def act_form(step):
    if step.act == "blink":
        return step.act
    if step.act == "set":
        return step.act + " " + GROUNDS[step.amount]
    return step.act + " " + str(step.amount)


def area_form(area):
    forms = []
    for word, size in area:
        operands = take_operands(forms, word)
        forms.append(part_form(word, size, operands))
    return forms[0][0]


def part_form(word, size, operands):
    """A part's form and how tightly it holds together, from those of its operands."""
    if word == "|":
        return join_form(word, operands, JOINED_BY_OR)
    if word == "&":
        return join_form(word, operands, JOINED_BY_AND)
    if word == "not" or word == "grow":
        return (word + " " + bracketed(operands[0], UNIT), UNIT)
    if word in SIZED_AREAS:
        return (word + " " + str(size), UNIT)
    return (word, UNIT)


def join_form(word, operands, tightness):
    """Chains are joined from the left, so the right operand has to hold together more tightly."""
    left = bracketed(operands[0], tightness)
    right = bracketed(operands[1], tightness + 1)
    return (left + " " + word + " " + right, tightness)


def bracketed(operand, asked):
    if operand[1] < asked:
        return "(" + operand[0] + ")"
    return operand[0]
