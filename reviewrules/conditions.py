"""Conditions: how they are read, how deep they are, how they are shown.

A read condition is a list of parts in which a join stands behind the two that
it joins. So it holds no brackets, the parts that name somebody stand in it from
the left, and every walk is a plain loop however deep the condition is.
"""

from reviewrules.faults import TooManyLevels
from reviewrules.tokens import NUMBER

NAME = "name"
SOME_OF = "some of"
AUTHOR = "author"
AND = "and"
OR = "or"

JOINS = ("and", "or")
MOST_LEVELS = 40


class Part:
    """The amount is 0 but for so many of a group; a join has no name."""

    def __init__(self, kind, amount, name):
        self.kind = kind
        self.amount = amount
        self.name = name


def read_condition(reader):
    parts = []
    waiting = []
    read_operand(reader, parts, waiting)
    while reader.stands(AND) or reader.stands(OR):
        join = reader.step()
        # "and" binds closer, so an "or" before it waits on.
        settle(parts, waiting, (AND,) if join == AND else JOINS)
        waiting.append(join)
        read_operand(reader, parts, waiting)
    reader.require("(" not in waiting)
    settle(parts, waiting, JOINS)
    return parts


def read_operand(reader, parts, waiting):
    """One part, with the brackets that begin before it and those that end behind it."""
    while reader.stands("("):
        if waiting.count("(") == MOST_LEVELS:
            raise TooManyLevels(reader.token().place)
        waiting.append(reader.step())
    parts.append(read_one(reader))
    while reader.stands(")") and "(" in waiting:
        reader.step()
        settle(parts, waiting, JOINS)
        waiting.pop()


def settle(parts, waiting, joins):
    """Puts the joins that waited for their second part behind it, back to one that isn't asked for."""
    while waiting and waiting[-1] in joins:
        parts.append(Part(waiting.pop(), 0, ""))


def read_one(reader):
    if reader.token().kind == NUMBER:
        amount = reader.take_amount()
        reader.take("of")
        return Part(SOME_OF, amount, reader.take_name())
    if reader.stands(AUTHOR):
        reader.step()
        return Part(AUTHOR, 0, reader.take_name())
    return Part(NAME, 0, reader.take_name())


def depth_of(parts):
    depths = []
    for part in parts:
        if part.kind in JOINS:
            second = depths.pop()
            first = depths.pop()
            depths.append(max(first, second) + 1)
        else:
            depths.append(1)
    return depths[0]


def show_condition(parts):
    shown = []
    for part in parts:
        if part.kind in JOINS:
            second = shown.pop()
            first = shown.pop()
            shown.append((part.kind, show_join(part.kind, first, second)))
        else:
            shown.append((part.kind, show_one(part)))
    return shown[0][1]


def show_one(part):
    if part.kind == SOME_OF:
        return str(part.amount) + " of " + part.name
    if part.kind == AUTHOR:
        return "author " + part.name
    return part.name


def show_join(kind, first, second):
    """Both are pairs of what joins them (or what single part they are) and their showing."""
    first_text = in_brackets(first[1], kind == AND and first[0] == OR)
    second_text = in_brackets(second[1], second[0] == OR or (kind == AND and second[0] == AND))
    return f"{first_text} {kind} {second_text}"


def in_brackets(text, needed):
    return f"({text})" if needed else text
