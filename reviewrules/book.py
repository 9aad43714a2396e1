"""The rules that hold, with their people and groups, and what statements may say of these."""

from reviewrules.conditions import JOINS, SOME_OF
from reviewrules.faults import NameIsTaken, NobodyHasTheName, NoRoomLeft, SecondDefault, TooFewInGroup
from reviewrules.statements import DEFAULT, GROUP, PERSON, VETO, read_well

MOST_PEOPLE = 8
MOST_GROUPS = 8


class Book:
    """People stand in the order in which they were told; of each group the people in it, likewise."""

    def __init__(self):
        self.statements = []
        self.people = []
        self.groups = {}

    def people_of(self, name):
        """Those whom a name stands for; none, if no person or group has it."""
        if name in self.groups:
            return list(self.groups[name])
        return [person for person in self.people if person == name]


def write_book(codes):
    """The book of a text that has no fault."""
    book = Book()
    for number, statement in enumerate(read_well(codes), start=1):
        enter(book, statement, number)
    return book


def enter(book, statement, number):
    """The statement's number is the place of a fault in it."""
    if statement.kind == PERSON:
        enter_people(book, statement, number)
    elif statement.kind == GROUP:
        enter_group(book, statement, number)
    elif statement.kind == VETO:
        require_known(book, statement.name, number)
    else:
        require_one_default(book, statement, number)
        check_condition(book, statement.condition, number)
    book.statements.append(statement)


def enter_people(book, statement, number):
    for name in statement.names:
        require_free(book, name, number)
        if len(book.people) == MOST_PEOPLE:
            raise NoRoomLeft(number)
        book.people.append(name)


def enter_group(book, statement, number):
    require_free(book, statement.name, number)
    if len(book.groups) == MOST_GROUPS:
        raise NoRoomLeft(number)
    within = []
    for name in statement.names:
        require_known(book, name, number)
        within.extend(book.people_of(name))
    # Told twice or through several groups, a person is in the group once.
    book.groups[statement.name] = [person for person in book.people if person in within]


def require_one_default(book, statement, number):
    if statement.kind == DEFAULT and any([earlier.kind == DEFAULT for earlier in book.statements]):
        raise SecondDefault(number)


def check_condition(book, condition, number):
    for part in condition:
        if part.kind not in JOINS:
            require_known(book, part.name, number)
        if part.kind == SOME_OF:
            require_enough(book, part, number)


def require_enough(book, part, number):
    if part.name not in book.groups or len(book.people_of(part.name)) < part.amount:
        raise TooFewInGroup(number)


def require_free(book, name, number):
    if book.people_of(name):
        raise NameIsTaken(number)


def require_known(book, name, number):
    if not book.people_of(name):
        raise NobodyHasTheName(number)
