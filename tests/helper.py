"""Calls written as texts, and answers taken apart again."""

from reviewrules.changes import answers

(
    RULES, FAULT, SHOW, FORM, SAME, MEMBERS, MATCHES, BEGIN,
    EDIT, APPROVE, VETO, WITHDRAW, STATUS, VERDICT, MISSING, TOLD,
) = range(16)

PEOPLE = "person ann, bob, cyd; group two = ann, bob; group all_of = two, cyd"

# Three statements, so that those put behind them are counted from 4.
FOUR = "person ann, bob, cyd, dan; group two = bob, cyd; group more = two, dan; "

NO_PATHS = [
    "", "/", "x/", "/x", "x//y", "a/b/c/d/e", "X", "x y", "*", "x/*", "**", "x/**", "'x'", "x\n", [0], [255], "a" * 13,
    "x/" + "a" * 13, "/".join(["a" * 12] * 3) + "/ab", "a" * 60, [97] * 11 + [200],
]


def codes(text):
    """A text's bytes; what is a list of bytes already stays as it is."""
    return [ord(sign) for sign in text] if isinstance(text, str) else list(text)


def call(number, *rows):
    numbers = [number]
    for row in rows:
        numbers.append(len(codes(row)))
        numbers.extend(codes(row))
    return numbers


def take_apart(numbers):
    """The answers, one list for each call."""
    taken = []
    place = 0
    while place < len(numbers):
        end = place + 1 + numbers[place]
        taken.append(numbers[place + 1:end])
        place = end
    return taken


def ask_all(*calls):
    numbers = []
    for one in calls:
        numbers.extend(one)
    return take_apart(answers(numbers))


def ask(number, *rows):
    """What one call answers on a new object."""
    return ask_all(call(number, *rows))[0]


def ask_last(*calls):
    return ask_all(*calls)[-1]


def fault(text):
    return tuple(ask(FAULT, text))


def counted(text):
    return [len(text)] + codes(text)


def counted_all(names):
    numbers = [len(names)]
    for name in names:
        numbers.extend(counted(name))
    return numbers


def status(author, version, paths=(), approvals=(), vetoes=()):
    """What the call status answers of such a change; paths and approvals are pairs with a version."""
    numbers = [1] + counted(author) + [version]
    for pairs in (paths, approvals):
        numbers.append(len(pairs))
        for name, its_version in pairs:
            numbers.extend(counted(name) + [its_version])
    return numbers + counted_all(vetoes)


def shown(text):
    """The showing of a text's rules, as a text; the text must be read well."""
    answer = ask(FORM, text)
    assert answer[0] == len(answer) - 1, answer
    return "".join(chr(code) for code in answer[1:])


def chain(join, amount):
    return f" {join} ".join(["a"] * amount)


def padded(text, length):
    return text + " " * (length - len(text))
