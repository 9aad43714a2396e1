"""The calls on one object, and what each of them answers."""

from reviewrules.book import Book, write_book
from reviewrules.faults import IsTheAuthor, NobodyHasTheName, NoChange, NoPath, NoPattern, NoRoomLeft, Refusal
from reviewrules.paths import is_path, is_pattern, pattern_matches
from reviewrules.review import kept_back, told_of, who_is_missing
from reviewrules.signs import counted_codes, text_of
from reviewrules.statements import read_well, show_statements

MOST_PATHS = 8


class Change:
    """Paths, approvals and vetoes stand in the order in which they came.

    Paths have the version in which they changed last, approvals the version that was approved.
    """

    def __init__(self, author):
        self.author = author
        self.version = 0
        self.paths = {}
        self.approvals = {}
        self.vetoes = {}


class Desk:
    """What one list of calls works on."""

    def __init__(self):
        self.book = Book()
        self.change = None


def call_rules(desk, rows):
    desk.book = write_book(rows[0])
    desk.change = None
    return [len(desk.book.statements)]


def call_fault(desk, rows):
    try:
        write_book(rows[0])
    except Refusal as refusal:
        return [refusal.number, refusal.place]
    return [0, 0]


def call_show(desk, rows):
    return counted_codes(show_statements(desk.book.statements))


def call_form(desk, rows):
    return counted_codes(show_statements(read_well(rows[0])))


def call_same(desk, rows):
    first = show_statements(read_well(rows[0]))
    second = show_statements(read_well(rows[1]))
    return [1 if first == second else 0]


def call_members(desk, rows):
    people = desk.book.people_of(text_of(rows[0]))
    if not people:
        raise NobodyHasTheName(0)
    return counted_names(people)


def call_matches(desk, rows):
    pattern = text_of(rows[0])
    if not is_pattern(pattern):
        raise NoPattern()
    return [1 if pattern_matches(pattern, path_of(rows[1])) else 0]


def call_begin(desk, rows):
    desk.change = Change(person_of(desk, rows[0]))
    return [0]


def call_edit(desk, rows):
    path = path_of(rows[0])
    change = present_change(desk)
    if path not in change.paths and len(change.paths) == MOST_PATHS:
        raise NoRoomLeft(0)
    change.version += 1
    # A path that was touched already keeps its place.
    change.paths[path] = change.version
    return [change.version]


def call_approve(desk, rows):
    person = reviewer_of(desk, rows[0])
    change = desk.change
    # Taken out first, so that the new approval comes last.
    change.approvals.pop(person, None)
    change.approvals[person] = change.version
    return [change.version]


def call_veto(desk, rows):
    person = reviewer_of(desk, rows[0])
    vetoes = desk.change.vetoes
    # Taken out first, so that the new veto comes last.
    vetoes.pop(person, None)
    vetoes[person] = True
    return [len(vetoes)]


def call_withdraw(desk, rows):
    person = reviewer_of(desk, rows[0])
    desk.change.approvals.pop(person, None)
    desk.change.vetoes.pop(person, None)
    return [0]


def call_status(desk, rows):
    change = desk.change
    if change is None:
        return [0]
    told = [1] + counted_codes(change.author) + [change.version]
    told.extend(counted_versions(change.paths))
    told.extend(counted_versions(change.approvals))
    told.extend(counted_names(list(change.vetoes)))
    return told


def call_verdict(desk, rows):
    kept = kept_back(desk.book, present_change(desk))
    if not kept:
        return [1]
    told = [0, len(kept)]
    for thing in kept:
        told.extend(list(thing))
    return told


def call_missing(desk, rows):
    people = who_is_missing(desk.book, present_change(desk))
    if people is None:
        return [0]
    return [1] + counted_names(people)


def call_told(desk, rows):
    pairs = told_of(desk.book.statements, path_of(rows[0]))
    told = [len(pairs)]
    for pair in pairs:
        told.extend(list(pair))
    return told


def path_of(codes):
    path = text_of(codes)
    if not is_path(path):
        raise NoPath()
    return path


def person_of(desk, codes):
    person = text_of(codes)
    if person not in desk.book.people:
        raise NobodyHasTheName(0)
    return person


def present_change(desk):
    if desk.change is None:
        raise NoChange()
    return desk.change


def reviewer_of(desk, codes):
    """A person who may approve, veto and withdraw."""
    person = person_of(desk, codes)
    if present_change(desk).author == person:
        raise IsTheAuthor()
    return person


def counted_names(names):
    """How many names, then for each how many bytes it has, the bytes."""
    told = [len(names)]
    for name in names:
        told.extend(counted_codes(name))
    return told


def counted_versions(versions):
    """The same, with the version of each behind it."""
    told = [len(versions)]
    for name in versions:
        told.extend(counted_codes(name))
        told.append(versions[name])
    return told


CALLS = {
    0: call_rules,
    1: call_fault,
    2: call_show,
    3: call_form,
    4: call_same,
    5: call_members,
    6: call_matches,
    7: call_begin,
    8: call_edit,
    9: call_approve,
    10: call_veto,
    11: call_withdraw,
    12: call_status,
    13: call_verdict,
    14: call_missing,
    15: call_told,
}

# How many rows stand behind the number of a call.
ROWS = {0: 1, 1: 1, 2: 0, 3: 1, 4: 2, 5: 1, 6: 2, 7: 1, 8: 1, 9: 1, 10: 1, 11: 1, 12: 0, 13: 0, 14: 0, 15: 1}


def answers(calls):
    """For each call how many numbers it answers, then these."""
    desk = Desk()
    told = []
    place = 0
    while place < len(calls):
        number = calls[place]
        place += 1
        rows = []
        while len(rows) < ROWS[number]:
            begin = place + 1
            place = begin + calls[place]
            rows.append(calls[begin:place])
        answer = answer_call(desk, number, rows)
        told.append(len(answer))
        told.extend(answer)
    return told


def answer_call(desk, number, rows):
    try:
        return CALLS[number](desk, rows)
    except Refusal as refusal:
        return [-refusal.number]
