"""Texts read as spells and as areas, up to their first fault."""

from spellareas.spell import ACTS, GROUNDS, SIZED_AREAS, UNSIZED_AREAS, Step
from spellareas.tokens import END, NAME, NUMBER, WRONG, tokens_of

WRONG_TOKEN = 1
MISPLACED = 2
OUT_OF_RANGE = 3
TOO_DEEP = 6

MOST_LEVELS = 12
MOST_SIZE = 9
ACT_MOST = {"hurt": 99, "heal": 99, "push": 5, "pull": 5}


class Fault(Exception):
    """A text's first fault: its number and its place."""

    def __init__(self, number, place):
        self.number = number
        self.place = place


class Reader:
    """A text's tokens, and how many of them are read."""

    def __init__(self, text):
        self.tokens = tokens_of(text)
        self.at = 0

    def token(self):
        return self.tokens[self.at]

    def sees(self, name):
        return self.token().kind == NAME and self.token().value == name

    def passes(self, name):
        """Read the token if it's this name, and tell whether it is."""
        seen = self.sees(name)
        if seen:
            self.at += 1
        return seen

    def misplace(self):
        """The token can't stand here."""
        number = WRONG_TOKEN if self.token().kind == WRONG else MISPLACED
        raise Fault(number, self.token().place)

    def take_name(self, names):
        token = self.token()
        if token.kind != NAME or token.value not in names:
            self.misplace()
        self.at += 1
        return token.value

    def take_number(self, least, most):
        token = self.token()
        if token.kind != NUMBER:
            self.misplace()
        if not least <= token.value <= most:
            raise Fault(OUT_OF_RANGE, token.place)
        self.at += 1
        return token.value

    def take_end(self):
        if self.token().kind != END:
            self.misplace()


def read_spell(text):
    """The steps of the spell that the text is. Raises its first Fault."""
    reader = Reader(text)
    steps = [read_step(reader)]
    while reader.passes(";"):
        steps.append(read_step(reader))
    reader.take_end()
    return steps


def read_lone_area(text):
    """The area that the whole text is. Raises its first Fault."""
    reader = Reader(text)
    area = read_area(reader, 0)
    reader.take_end()
    return area


def read_step(reader):
    act = reader.take_name(ACTS)
    amount = read_amount(reader, act)
    reader.take_name(("on",))
    area = read_area(reader, 0)
    when = None
    if reader.passes("when"):
        when = read_area(reader, 0)
    return Step(act, amount, area, when)


def read_amount(reader, act):
    if act == "set":
        return GROUNDS.index(reader.take_name(GROUNDS))
    if act == "blink":
        return 0
    return reader.take_number(1, ACT_MOST[act])


# The three below call one another, but never deeper than the levels that may be open.
def read_area(reader, levels):
    """An area, read where so many levels are open."""
    area = read_part(reader, levels)
    while reader.passes("|"):
        area.extend(read_part(reader, levels))
        area.append(("|", 0))
    return area


def read_part(reader, levels):
    part = read_unit(reader, levels)
    while reader.passes("&"):
        part.extend(read_unit(reader, levels))
        part.append(("&", 0))
    return part


def read_unit(reader, levels):
    opener = reader.token()
    opens = reader.sees("not") or reader.sees("grow") or reader.sees("(")
    if not opens:
        return [read_simple(reader)]
    if levels == MOST_LEVELS:
        raise Fault(TOO_DEEP, opener.place)
    if reader.passes("("):
        area = read_area(reader, levels + 1)
        reader.take_name((")",))
        return area
    word = reader.take_name(("not", "grow"))
    unit = read_unit(reader, levels + 1)
    unit.append((word, 0))
    return unit


def read_simple(reader):
    word = reader.take_name(SIZED_AREAS + UNSIZED_AREAS + GROUNDS)
    size = 0
    if word in SIZED_AREAS:
        size = reader.take_number(0, MOST_SIZE)
    return (word, size)
