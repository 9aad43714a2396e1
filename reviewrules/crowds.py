"""Crowds of people who might approve yet, and conditions weighed for many crowds at once.

A crowd is a list of people. A row is a whole number with a bit for each crowd, the
lowest for the first: it tells with the approvals of which crowds something holds. So a
condition is gone through once, and not once more for each of up to 128 crowds.
"""

from reviewrules.conditions import AND, AUTHOR, JOINS, NAME


def crowds_of(people):
    """All crowds of these people, the smaller ones first, of those as small the ones with the earlier people."""
    crowds = []
    as_small = [[]]
    while as_small:
        crowds.extend(as_small)
        as_small = larger_by_one(as_small, people)
    return crowds


def larger_by_one(crowds, people):
    """Only later people join a crowd, so that none comes twice and the order stays."""
    larger = []
    for crowd in crowds:
        begin = people.index(crowd[-1]) + 1 if crowd else 0
        larger.extend([crowd + [person] for person in people[begin:]])
    return larger


def row_of_all(crowds):
    row = 0
    for crowd in crowds:
        row = row * 2 + 1
    return row


def row_with(person, crowds):
    row = 0
    bit = 1
    for crowd in crowds:
        if person in crowd:
            row += bit
        bit = bit * 2
    return row


def first_crowd(crowds, row):
    """The first crowd that has its bit in the row; None, if there's none."""
    for crowd in crowds:
        if row % 2 == 1:
            return crowd
        row = row // 2
    return None


class Scale:
    """What conditions of one path are weighed by: each person's row tells where an approval of theirs counts."""

    def __init__(self, book, author, crowds):
        self.book = book
        self.author = author
        self.whole = row_of_all(crowds)
        self.rows = {}
        for person in book.people:
            self.rows[person] = row_with(person, crowds)

    def count_always(self, person):
        self.rows[person] = self.whole

    def weigh(self, condition):
        """The row of the crowds with which the condition is met."""
        met = []
        for part in condition:
            if part.kind in JOINS:
                second = met.pop()
                first = met.pop()
                met.append(first & second if part.kind == AND else first | second)
            else:
                met.append(self.weigh_one(part))
        return met[0]

    def weigh_one(self, part):
        people = self.book.people_of(part.name)
        if part.kind == AUTHOR:
            return self.whole if self.author in people else 0
        amount = 1 if part.kind == NAME else part.amount
        return self.weigh_so_many(amount, people)

    def weigh_so_many(self, amount, people):
        # At k stands the row of the crowds with which k of the people gone through approve.
        rows = [self.whole] + [0] * amount
        for person in people:
            # From the top, as nobody counts twice.
            for k in range(amount, 0, -1):
                rows[k] = rows[k] | (rows[k - 1] & self.rows[person])
        return rows[amount]
