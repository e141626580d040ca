"""Calls as the tests write them, and their answers as the tests read them."""

from spellareas.level import answers

GROUND_SIGNS = "#.~*^"
GREATEST = 10 ** 18


def row(numbers):
    return [len(numbers)] + list(numbers)


def text(words):
    """A text's row: from a str, or from bytes as they are."""
    return row(words.encode() if isinstance(words, str) else words)


def open_level(width, height, grounds=None):
    return [0, width, height] + row([1] * (width * height) if grounds is None else grounds)


def drawn(*rows):
    """The open call of a level that's drawn: # wall, . floor, ~ water, * ice, ^ fire."""
    return open_level(len(rows[0]), len(rows), grounds_of(*rows))


def grounds_of(*rows):
    return [GROUND_SIGNS.index(sign) for line in rows for sign in line]


def being(x, y, life=10, most=100, mana=1000000, side=0):
    return [1, x, y, life, most, mana, side]


def check(words):
    return [2] + text(words)


def print_form(words):
    return [3] + text(words)


def cost(words):
    return [4] + text(words)


def cast(number, x, y, words):
    return [5, number, x, y] + text(words)


def attempt(number, x, y, words):
    return [6, number, x, y] + text(words)


def area(number, x, y, words):
    return [7, number, x, y] + text(words)


def bound(words):
    return [8] + text(words)


def apart(words):
    return [9] + text(words)


def tidy(words):
    return [10] + text(words)


def undo():
    return [11]


def who(number):
    return [12, number]


def ground():
    return [13]


def level():
    return [14]


def run(*calls):
    """The answer of each call, by itself, of one list of calls."""
    told = answers([number for call in calls for number in call])
    each = []
    at = 0
    while at < len(told):
        each.append(told[at + 1:at + 1 + told[at]])
        at += 1 + told[at]
    assert at == len(told) and len(each) == len(calls), told
    return each


def last(*calls):
    return run(*calls)[-1]


def fault(words):
    """The first fault's number and place."""
    answer = last(open_level(2, 2), check(words))
    assert len(answer) == 3 and answer[0] == 0, answer
    return tuple(answer[1:])


def form(words):
    """The one form of a spell's text."""
    answer = last(open_level(2, 2), print_form(words))
    assert answer[0] == 0 and answer[1] == len(answer) - 2, answer
    return bytes(answer[2:]).decode()


def tidied(words):
    """The one form of a spell's text made simpler."""
    answer = last(open_level(2, 2), tidy(words))
    assert answer[0] == 0 and answer[1] == len(answer) - 2, answer
    return bytes(answer[2:]).decode()


def apart_row(words):
    """The row that apart answers."""
    answer = last(open_level(2, 2), apart(words))
    assert answer[0] == 0 and answer[1] == len(answer) - 2, answer
    return answer[2:]


def bound_on(width, height, words):
    answer = last(open_level(width, height), bound(words))
    assert len(answer) == 2 and answer[0] == 0, answer
    return answer[1]


def cost_on(width, height, words):
    answer = last(open_level(width, height), cost(words))
    assert len(answer) == 2 and answer[0] == 0, answer
    return answer[1]


def pairs(answer):
    """The cells of an area call's answer."""
    assert answer[0] == 0 and answer[1] == len(answer) - 2, answer
    return list(zip(answer[2::2], answer[3::2], strict=True))


def seen(*calls):
    """All that can be told, when the calls are made, of the level and its beings."""
    return run(*calls, ground(), level())[len(calls):]
