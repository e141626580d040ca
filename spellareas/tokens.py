"""Texts, which are lists of bytes, cut into tokens."""

# The kinds of tokens. A name is a word or a sign.
NAME = 1
NUMBER = 2
WRONG = 3
END = 4

BLANKS = (9, 10, 13, 32)
SIGNS = {38: "&", 40: "(", 41: ")", 59: ";", 124: "|"}
LETTERS = "abcdefghijklmnopqrstuvwxyz"
FIRST_LETTER = 97
LAST_LETTER = 122
FIRST_DIGIT = 48
LAST_DIGIT = 57
MOST_DIGITS = 3


class Token:
    """A token: its kind, its text or number, its place and the place behind it."""

    def __init__(self, kind, value, place, behind):
        self.kind = kind
        self.value = value
        self.place = place
        self.behind = behind


def tokens_of(text):
    """The text's tokens, the end too, but none behind a wrong one, which is never passed."""
    tokens = []
    at = 0
    while at < len(text):
        if text[at] in BLANKS:
            at += 1
        else:
            token = token_at(text, at)
            tokens.append(token)
            if token.kind == WRONG:
                return tokens
            at = token.behind
    tokens.append(Token(END, "", len(text), len(text)))
    return tokens


def token_at(text, at):
    """The token that begins at this place, where no blank stands."""
    if text[at] in SIGNS:
        return Token(NAME, SIGNS[text[at]], at, at + 1)
    behind = run_end(text, at, FIRST_LETTER, LAST_LETTER)
    if behind > at:
        return Token(NAME, word_of(text[at:behind]), at, behind)
    behind = run_end(text, at, FIRST_DIGIT, LAST_DIGIT)
    if at < behind <= at + MOST_DIGITS:
        return Token(NUMBER, number_of(text[at:behind]), at, behind)
    return Token(WRONG, "", at, at + 1)


def run_end(text, at, least, greatest):
    """The place behind the longest run, from this place on, of bytes from least to greatest."""
    behind = at
    while behind < len(text) and least <= text[behind] <= greatest:
        behind += 1
    return behind


def word_of(letters):
    return "".join([LETTERS[byte - FIRST_LETTER] for byte in letters])


def number_of(digits):
    number = 0
    for byte in digits:
        number = 10 * number + byte - FIRST_DIGIT
    return number
