"""The calls on one object, and what each of them answers."""

from reviewrules.book import Book, write_book
from reviewrules.faults import NobodyHasTheName, NoPath, NoPattern, Refusal
from reviewrules.paths import is_path, is_pattern, pattern_matches
from reviewrules.signs import counted_codes, text_of
from reviewrules.statements import read_well, show_statements


class Change:
    """Paths, approvals and vetoes stand in the order in which they came."""

    def __init__(self, author):
        self.author = author
        self.version = 0
        self.paths = {}
        self.approvals = {}
        self.vetoes = {}


class Desk:
    """What one list of calls works on."""

    def __init__(self):
        self.book = Book()
        self.change = None


def call_rules(desk, rows):
    desk.book = write_book(rows[0])
    desk.change = None
    return [len(desk.book.statements)]


def call_fault(desk, rows):
    try:
        write_book(rows[0])
    except Refusal as refusal:
        return [refusal.number, refusal.place]
    return [0, 0]


def call_show(desk, rows):
    return counted_codes(show_statements(desk.book.statements))


def call_form(desk, rows):
    return counted_codes(show_statements(read_well(rows[0])))


def call_same(desk, rows):
    first = show_statements(read_well(rows[0]))
    second = show_statements(read_well(rows[1]))
    return [1 if first == second else 0]


def call_members(desk, rows):
    people = desk.book.people_of(text_of(rows[0]))
    if not people:
        raise NobodyHasTheName(0)
    told = [len(people)]
    for person in people:
        told.extend(counted_codes(person))
    return told


def call_matches(desk, rows):
    pattern = text_of(rows[0])
    path = text_of(rows[1])
    if not is_pattern(pattern):
        raise NoPattern()
    if not is_path(path):
        raise NoPath()
    return [1 if pattern_matches(pattern, path) else 0]


def call_begin(desk, rows):
    author = text_of(rows[0])
    if author not in desk.book.people:
        raise NobodyHasTheName(0)
    desk.change = Change(author)
    return [0]


CALLS = {
    0: call_rules,
    1: call_fault,
    2: call_show,
    3: call_form,
    4: call_same,
    5: call_members,
    6: call_matches,
    7: call_begin,
}

# How many rows stand behind the number of a call.
ROWS = {0: 1, 1: 1, 2: 0, 3: 1, 4: 2, 5: 1, 6: 2, 7: 1}


def answers(calls):
    """For each call how many numbers it answers, then these."""
    desk = Desk()
    told = []
    place = 0
    while place < len(calls):
        number = calls[place]
        place += 1
        rows = []
        while len(rows) < ROWS[number]:
            begin = place + 1
            place = begin + calls[place]
            rows.append(calls[begin:place])
        answer = answer_call(desk, number, rows)
        told.append(len(answer))
        told.extend(answer)
    return told


def answer_call(desk, number, rows):
    try:
        return CALLS[number](desk, rows)
    except Refusal as refusal:
        return [-refusal.number]
