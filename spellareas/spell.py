"""What a spell is once it's read, and the words it's told by.

An area is a list of (word, number) in the order in which they are worked out:
an operator stands behind its operands, and brackets are gone. A chain may be
as long as its text, so this list is gone through by a loop, where a tree would
be gone through by calls within one another.
"""

# In the order of the grounds' numbers.
GROUNDS = ("wall", "floor", "water", "ice", "fire")
WALL = 0

ACTS = ("hurt", "heal", "push", "pull", "set", "blink")
SIZED_AREAS = ("ball", "ring", "burst")
UNSIZED_AREAS = ("self", "target", "line", "bolt", "all", "beings", "foes", "friends")
OPERANDS = {"not": 1, "grow": 1, "&": 2, "|": 2}


class Step:
    """A step: its act, the act's number (of set: the ground), its area, and its "when" area or None."""

    def __init__(self, act, amount, area, when):
        self.act = act
        self.amount = amount
        self.area = area
        self.when = when


def take_operands(values, word):
    """Take the values of the word's operands, in order, off the end of those worked out so far."""
    count = OPERANDS.get(word, 0)
    operands = values[len(values) - count:]
    for turn in range(count):
        values.pop()
    return operands


def last_operands(area):
    """The two operands of the | or & that the area ends with."""
    begin = len(area) - 1
    wanted = 1
    while wanted > 0:
        begin -= 1
        wanted += OPERANDS.get(area[begin][0], 0) - 1
    return [area[:begin], area[begin:-1]]
