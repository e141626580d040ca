"""Which steps of a spell may be exchanged."""

from spellareas.spell import GROUNDS, WALL

PLACE_WORDS = ("self", "line", "bolt", "beings", "foes", "friends")
GROUND_SHAPES = ("bolt", "burst")
MOVES = ("push", "pull", "blink")


def exchanges(steps):
    """Of each step with each one behind it, in order: 1 if they may be exchanged, else 0."""
    told = []
    for first in range(len(steps)):
        for second in range(first + 1, len(steps)):
            told.append(1 if may_be_exchanged(steps[first], steps[second]) else 0)
    return told


def may_be_exchanged(step, other):
    if disturbs(step, other) or disturbs(other, step):
        return False
    if step.act == "set" and other.act == "set":
        return step.amount == other.amount
    return True


def disturbs(step, other):
    """Whether the step changes something that the other one looks at."""
    if step.act in MOVES:
        return looks_at_places(other)
    if step.act == "set":
        return looks_at_ground(other)
    return False


def looks_at_places(step):
    if step.act != "set" or step.amount == WALL:
        return True
    return any([word in PLACE_WORDS for word in area_words(step)])


def looks_at_ground(step):
    if step.act in MOVES:
        return True
    return any([word in GROUND_SHAPES or word in GROUNDS for word in area_words(step)])


def area_words(step):
    """The words of all the step's areas."""
    words = [part[0] for part in step.area]
    if step.when is not None:
        words.extend([part[0] for part in step.when])
    return words
