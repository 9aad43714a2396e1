"""Statements: how a text is read into them, and how they are shown."""

from reviewrules.conditions import depth_of, read_condition, show_condition
from reviewrules.faults import ConditionTooDeep, TextTooLong
from reviewrules.reader import Reader
from reviewrules.signs import text_of
from reviewrules.tokens import END_TEXT, cut

PERSON = "person"
GROUP = "group"
NEED = "need"
VETO = "veto"
STICKY = "sticky"
DEFAULT = "default"

LONGEST_TEXT = 1000
MOST_STATEMENTS = 24
MOST_NAMES = 8
DEEPEST = 40


class Statement:
    """What a kind of statement doesn't have is empty in it."""

    def __init__(self, kind):
        self.kind = kind
        self.name = ""
        self.names = []
        self.pattern = ""
        self.condition = []


def read_well(codes):
    """The statements of a text that has none of the faults 1 to 5."""
    if len(codes) > LONGEST_TEXT:
        raise TextTooLong()
    statements = read_statements(Reader(cut(text_of(codes))))
    for statement in statements:
        if statement.condition and depth_of(statement.condition) > DEEPEST:
            raise ConditionTooDeep()
    return statements


def read_statements(reader):
    statements = [read_statement(reader)]
    while len(statements) < MOST_STATEMENTS and reader.stands(";"):
        reader.step()
        statements.append(read_statement(reader))
    reader.take(END_TEXT)
    return statements


def read_statement(reader):
    if reader.stands("person"):
        return read_person(reader)
    if reader.stands("group"):
        return read_group(reader)
    if reader.stands("on"):
        return read_on(reader)
    if reader.stands("sticky"):
        return read_sticky(reader)
    return read_default(reader)


def read_person(reader):
    statement = Statement(PERSON)
    reader.take("person")
    statement.names = read_names(reader)
    return statement


def read_group(reader):
    statement = Statement(GROUP)
    reader.take("group")
    statement.name = reader.take_name()
    reader.take("=")
    statement.names = read_names(reader)
    return statement


def read_names(reader):
    names = [reader.take_name()]
    while len(names) < MOST_NAMES and reader.stands(","):
        reader.step()
        names.append(reader.take_name())
    return names


def read_on(reader):
    reader.take("on")
    pattern = reader.take_pattern()
    if reader.stands("veto"):
        statement = Statement(VETO)
        reader.step()
        statement.name = reader.take_name()
    else:
        statement = Statement(NEED)
        reader.take("need")
        statement.condition = read_condition(reader)
    statement.pattern = pattern
    return statement


def read_sticky(reader):
    statement = Statement(STICKY)
    reader.take("sticky")
    statement.pattern = reader.take_pattern()
    return statement


def read_default(reader):
    statement = Statement(DEFAULT)
    reader.take("default")
    reader.take("need")
    statement.condition = read_condition(reader)
    return statement


def show_statements(statements):
    return "; ".join([show_statement(statement) for statement in statements])


def show_statement(statement):
    if statement.kind == PERSON:
        return "person " + ", ".join(statement.names)
    if statement.kind == GROUP:
        return "group " + statement.name + " = " + ", ".join(statement.names)
    if statement.kind == VETO:
        return "on '" + statement.pattern + "' veto " + statement.name
    if statement.kind == STICKY:
        return "sticky '" + statement.pattern + "'"
    if statement.kind == NEED:
        return "on '" + statement.pattern + "' need " + show_condition(statement.condition)
    return "default need " + show_condition(statement.condition)
