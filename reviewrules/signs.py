"""Lists of bytes as texts, and texts as lists of bytes."""

SMALL_LETTERS = "abcdefghijklmnopqrstuvwxyz"
DIGITS = "0123456789"
WORD_SIGNS = "abcdefghijklmnopqrstuvwxyz0123456789_"
FILE_SIGNS = "abcdefghijklmnopqrstuvwxyz0123456789_.-"
PATTERN_SIGNS = "abcdefghijklmnopqrstuvwxyz0123456789_.-/*"
KNOWN_SIGNS = "\n '(),;=abcdefghijklmnopqrstuvwxyz0123456789_.-/*"

# A byte that stands in no rule needs no sign of its own: wherever it stands it is refused.
OTHER_SIGN = "?"


def text_of(codes):
    """The text with one sign for each byte, so that places in both are the same."""
    signs = {}
    for sign in KNOWN_SIGNS:
        signs[ord(sign)] = sign
    return "".join([signs.get(code, OTHER_SIGN) for code in codes])


def codes_of(text):
    return [ord(sign) for sign in text]


def counted_codes(text):
    """How many bytes the text has, then they."""
    return [len(text)] + codes_of(text)
