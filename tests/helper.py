"""Calls written as texts, and answers taken apart again."""

from reviewrules.changes import answers

RULES, FAULT, SHOW, FORM, SAME, MEMBERS, MATCHES, BEGIN = range(8)

PEOPLE = "person ann, bob, cyd; group two = ann, bob; group all_of = two, cyd"


def codes(text):
    """A text's bytes; what is a list of bytes already stays as it is."""
    return [ord(sign) for sign in text] if isinstance(text, str) else list(text)


def call(number, *rows):
    numbers = [number]
    for row in rows:
        numbers.append(len(codes(row)))
        numbers.extend(codes(row))
    return numbers


def take_apart(numbers):
    """The answers, one list for each call."""
    taken = []
    place = 0
    while place < len(numbers):
        end = place + 1 + numbers[place]
        taken.append(numbers[place + 1:end])
        place = end
    return taken


def ask_all(*calls):
    numbers = []
    for one in calls:
        numbers.extend(one)
    return take_apart(answers(numbers))


def ask(number, *rows):
    """What one call answers on a new object."""
    return ask_all(call(number, *rows))[0]


def ask_last(*calls):
    return ask_all(*calls)[-1]


def fault(text):
    return tuple(ask(FAULT, text))


def counted(text):
    return [len(text)] + codes(text)


def shown(text):
    """The showing of a text's rules, as a text; the text must be read well."""
    answer = ask(FORM, text)
    assert answer[0] == len(answer) - 1, answer
    return "".join(chr(code) for code in answer[1:])


def chain(join, amount):
    return f" {join} ".join(["a"] * amount)


def padded(text, length):
    return text + " " * (length - len(text))
