"""What the rules say of a change: what speaks of a path, what keeps the change back, who is missing."""

from reviewrules.crowds import Scale, crowds_of, first_crowd, row_of_all
from reviewrules.paths import pattern_matches
from reviewrules.statements import DEFAULT

# How a statement speaks of a path, by the statement's kind.
WAYS = {"need": 1, "veto": 2, "sticky": 3, "default": 4}
BY_NEED = 1
BY_VETO = 2
BY_STICKY = 3
BY_DEFAULT = 4

# How a change is kept back.
NEED_NOT_MET = 1
VETOED = 2
NOTHING_TOLD = 3


def told_of(statements, path):
    """Pairs of a statement's number and how it speaks of the path, in the statements' order."""
    told = []
    for number, statement in enumerate(statements, start=1):
        if may_speak_of(statement, path):
            told.append((number, WAYS[statement.kind]))
    if numbers_told(told, BY_NEED):
        told = [pair for pair in told if pair[1] != BY_DEFAULT]
    return told


def may_speak_of(statement, path):
    """A default may speak of any path; whether it does rests with the other statements."""
    if statement.kind == DEFAULT:
        return True
    return statement.kind in WAYS and pattern_matches(statement.pattern, path)


def numbers_told(told, asked):
    return [number for number, way in told if way == asked]


def needs_told(told):
    return numbers_told(told, BY_NEED) + numbers_told(told, BY_DEFAULT)


def kept_back(book, change):
    """For each thing that keeps the change back: the path's number, the statement's number, how."""
    kept = []
    for place, path in enumerate(change.paths):
        for number, how in kept_back_at(book, change, path):
            kept.append((place, number, how))
    return kept


def kept_back_at(book, change, path):
    # The one crowd has nobody in it: the approvals that there are must do.
    weighed = weigh_needs(book, change, path, [[]])
    kept = [(number, NEED_NOT_MET) for number, row in weighed if row == 0]
    if not weighed:
        kept.append((0, NOTHING_TOLD))
    for number in numbers_told(told_of(book.statements, path), BY_VETO):
        if is_vetoed(book, change, book.statements[number - 1].name):
            kept.append((number, VETOED))
    return kept


def weigh_needs(book, change, path, crowds):
    """Pairs of the number of each need of the path and the row of the crowds with which it's met."""
    told = told_of(book.statements, path)
    scale = Scale(book, change.author, crowds)
    for person in change.approvals:
        if change.approvals[person] >= change.paths[path] or numbers_told(told, BY_STICKY):
            scale.count_always(person)
    return [(number, scale.weigh(book.statements[number - 1].condition)) for number in needs_told(told)]


def is_vetoed(book, change, name):
    return any([person in change.vetoes for person in book.people_of(name)])


def who_is_missing(book, change):
    """The people who have to approve yet; None, if nobody's approvals would do."""
    crowds = crowds_of([person for person in book.people if person != change.author])
    enough = row_of_all(crowds)
    for path in change.paths:
        weighed = weigh_needs(book, change, path, crowds)
        if not weighed:
            return None
        for number, row in weighed:
            enough = enough & row
    return first_crowd(crowds, enough)
