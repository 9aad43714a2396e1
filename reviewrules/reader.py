"""A place among the tokens, and what may be taken from there."""

from reviewrules.faults import CannotStandThere
from reviewrules.paths import is_pattern
from reviewrules.tokens import NUMBER, PATTERN, WORD

KEYWORDS = ("person", "group", "on", "need", "veto", "sticky", "default", "of", "author", "and", "or")


class Reader:
    """The last token is the end; nothing steps beyond it."""

    def __init__(self, tokens):
        self.tokens = tokens
        self.at = 0

    def token(self):
        return self.tokens[self.at]

    def stands(self, text):
        return self.token().text == text

    def take(self, text):
        """A word, sign or end that must stand here."""
        self.require(self.stands(text))
        return self.step()

    def take_name(self):
        token = self.token()
        self.require(token.kind == WORD and token.text not in KEYWORDS)
        return self.step()

    def take_pattern(self):
        token = self.token()
        self.require(token.kind == PATTERN and is_pattern(token.text[1:-1]))
        return self.step()[1:-1]

    def take_amount(self):
        token = self.token()
        self.require(token.kind == NUMBER and int(token.text) > 0)
        return int(self.step())

    def require(self, can_stand):
        if not can_stand:
            raise CannotStandThere(self.token().place)

    def step(self):
        text = self.token().text
        self.at += 1
        return text
