"""How a text is cut into tokens."""

from reviewrules.faults import CannotBeCut
from reviewrules.signs import DIGITS, PATTERN_SIGNS, SMALL_LETTERS, WORD_SIGNS

WORD = "word"
NUMBER = "number"
PATTERN = "pattern"
SIGN = "sign"
END = "end"

LONGEST_WORD = 12
LONGEST_NUMBER = 2
PASSED_OVER = " \n"
SIGNS_ALONE = "(),;="
QUOTE = "'"
END_TEXT = ""


class Token:
    """A pattern token's text has its quotes, so it is never taken for a word."""

    def __init__(self, kind, text, place):
        self.kind = kind
        self.text = text
        self.place = place


def cut(text):
    """The tokens from the left, the end behind them."""
    tokens = []
    place = 0
    while place < len(text):
        if text[place] in PASSED_OVER:
            place += 1
        else:
            token = token_at(text, place)
            tokens.append(token)
            place += len(token.text)
    tokens.append(Token(END, END_TEXT, len(text)))
    return tokens


def token_at(text, place):
    sign = text[place]
    if sign in SMALL_LETTERS:
        return run_token(WORD, text, place, run_end(text, place, WORD_SIGNS), LONGEST_WORD)
    if sign in DIGITS:
        return run_token(NUMBER, text, place, run_end(text, place, DIGITS), LONGEST_NUMBER)
    if sign == QUOTE:
        return pattern_token(text, place)
    if sign in SIGNS_ALONE:
        return Token(SIGN, sign, place)
    raise CannotBeCut(place)


def run_token(kind, text, place, end, longest):
    if end - place > longest:
        raise CannotBeCut(place)
    return Token(kind, text[place:end], place)


def pattern_token(text, place):
    end = run_end(text, place + 1, PATTERN_SIGNS)
    if end == len(text) or text[end] != QUOTE:
        raise CannotBeCut(place)
    return Token(PATTERN, text[place:end + 1], place)


def run_end(text, place, signs):
    """Where the longest run of these signs ends that begins at the place."""
    end = place
    while end < len(text) and text[end] in signs:
        end += 1
    return end
