"""Long lists of calls of all sixteen kinds, held against a second, plain writing of what the document says.

The plain one has its rules as they were made up, not as they were read, asks each condition for one set of people at
a time, and tries the sets that may be missing one by one.
"""

import itertools
import random
import re
import unittest

from reviewrules.changes import answers
from tests.helper import (
    APPROVE, BEGIN, EDIT, FAULT, FORM, MATCHES, MEMBERS, MISSING, RULES, SAME, SHOW, STATUS, TOLD, VERDICT, VETO,
    WITHDRAW, ask_all, call, counted, counted_all, status,
)

PEOPLE = ["zoe", "bob", "a", "m_1", "eve", "cyd", "dan", "hal"]
GROUPS = ["g", "core", "docs"]
PATHS = ["x", "y", "x/y", "x/z", "y/x", "x/y/z", "w/x/y/z", "z", "x.py", "y/y"]
PATTERNS = ["**", "*", "x", "y", "x/*", "x/**", "*/y", "*/*", "y/**", "x/y/z", "*/x/**", "z", "w/*/*/z"]
WRONG_PATHS = ["", "x/", "*", "X", "a/b/c/d/e"]
WRONG_TEXTS = [
    ("", 4, 0), ("person", 4, 6), ("on 'x", 2, 3), ("person a, b, a", 7, 1), ("group g = a", 6, 1), (" " * 1001, 1, 0),
    ("person a; group g = a; default need 2 of g", 8, 3), ("person a; default need a; default need a", 10, 3),
    ("person a; default need " + "(" * 41, 3, 63), ("person a; default need a" + " and a" * 40, 5, 0),
    ("person a, b, c, d, e, f, g, h; person i", 9, 2),
]


def make_condition(chance, names, groups, joins):
    """A name, so many of a group, an author, or two of these joined, as tuples within one another."""
    if joins and chance.random() < 0.7:
        first = chance.randrange(joins)
        return (
            chance.choice(["and", "or"]), make_condition(chance, names, groups, first),
            make_condition(chance, names, groups, joins - 1 - first),
        )
    kind = chance.random()
    if groups and kind < 0.4:
        group = chance.choice(sorted(groups))
        return "of", chance.randint(1, len(groups[group])), group
    return ("author" if kind > 0.85 else "name"), chance.choice(names)


def write_condition(condition):
    if condition[0] == "of":
        return f"{condition[1]} of {condition[2]}"
    if condition[0] == "author":
        return f"author {condition[1]}"
    if condition[0] == "name":
        return condition[1]
    texts = [write_condition(part) for part in condition[1:]]
    if condition[0] == "and":
        bare = [condition[1][0] != "or", condition[2][0] not in ("and", "or")]
    else:
        bare = [True, condition[2][0] != "or"]
    return f" {condition[0]} ".join([text if plain else f"({text})" for text, plain in zip(texts, bare)])


class Plain:
    def __init__(self):
        self.statements, self.people, self.groups, self.texts, self.change = [], [], {}, [], None

    def make_rules(self, chance):
        self.__init__()
        self.people = chance.sample(PEOPLE, chance.randint(2, 8))
        self.add("person", ", ".join(self.people), "person")
        for name in GROUPS[:chance.randrange(4)]:
            told = chance.sample(self.people + sorted(self.groups), chance.randint(1, min(3, len(self.people))))
            self.add("group", f"{name} = {', '.join(told)}", "group")
            within = [person for one in told for person in self.groups.get(one, [one])]
            self.groups[name] = [person for person in self.people if person in within]
        for _ in range(chance.randint(0, 8)):
            self.make_statement(chance)
        return "; ".join(self.texts)

    def make_statement(self, chance):
        names = self.people + sorted(self.groups)
        pattern = chance.choice(PATTERNS)
        kind = chance.choice(["need", "need", "need", "veto", "sticky", "default"])
        condition = make_condition(chance, names, self.groups, chance.randrange(6))
        if kind == "need":
            self.add("need", f"'{pattern}' need {write_condition(condition)}", "on", pattern, condition)
        elif kind == "veto":
            name = chance.choice(names)
            self.add("veto", f"'{pattern}' veto {name}", "on", pattern, name)
        elif kind == "sticky":
            self.add("sticky", f"'{pattern}'", "sticky", pattern)
        elif not self.of_kind("default"):
            self.add("default", f"need {write_condition(condition)}", "default", "", condition)

    def add(self, kind, text, word, pattern="", said=None):
        self.texts.append(f"{word} {text}")
        self.statements.append((len(self.texts), kind, pattern, said))

    def of_kind(self, kind, path=None):
        return [one for one in self.statements if one[1] == kind and (path is None or fits(one[2], path))]

    def needs(self, path):
        return self.of_kind("need", path) or self.of_kind("default")

    def told(self, path):
        ways = {"need": 1, "veto": 2, "sticky": 3, "default": 4}
        speaking = self.needs(path) + self.of_kind("veto", path) + self.of_kind("sticky", path)
        numbers = [len(speaking)]
        for number, kind, _, _ in sorted(speaking, key=lambda one: one[0]):
            numbers.extend([number, ways[kind]])
        return numbers

    def meant(self, name):
        return set(self.groups.get(name, [name]))

    def met(self, condition, approving):
        if condition[0] == "and":
            return self.met(condition[1], approving) and self.met(condition[2], approving)
        if condition[0] == "or":
            return self.met(condition[1], approving) or self.met(condition[2], approving)
        if condition[0] == "author":
            return self.change["author"] in self.meant(condition[1])
        amount = condition[1] if condition[0] == "of" else 1
        return len(self.meant(condition[-1]) & approving) >= amount

    def approving(self, path, approvals):
        since = -1 if self.of_kind("sticky", path) else self.change["paths"][path]
        return {person for person, version in approvals.items() if version >= since}

    def unmet(self, path, approvals):
        return [one for one in self.needs(path) if not self.met(one[3], self.approving(path, approvals))]

    def verdict(self):
        kept = []
        for place, path in enumerate(self.change["paths"]):
            if not self.needs(path):
                kept.append([place, 0, 3])
            kept.extend([[place, one[0], 1] for one in self.unmet(path, self.change["approvals"])])
            vetoes = [one for one in self.of_kind("veto", path) if self.meant(one[3]) & set(self.change["vetoes"])]
            kept.extend([[place, one[0], 2] for one in vetoes])
        return [0, len(kept)] + sum(kept, []) if kept else [1]

    def missing(self):
        others = [person for person in self.people if person != self.change["author"]]
        for amount in range(len(others) + 1):
            for people in itertools.combinations(others, amount):
                approvals = {**self.change["approvals"], **dict.fromkeys(people, self.change["version"])}
                if all(self.needs(path) and not self.unmet(path, approvals) for path in self.change["paths"]):
                    return [1] + counted_all(people)
        return [0]

    def begin(self, name):
        if name not in self.people:
            return [-6]
        self.change = {"author": name, "version": 0, "paths": {}, "approvals": {}, "vetoes": []}
        return [0]

    def edit(self, path):
        if path not in PATHS:
            return [-11]
        if not self.change:
            return [-12]
        if len({*self.change["paths"], path}) > 8:
            return [-9]
        self.change["version"] += 1
        self.change["paths"][path] = self.change["version"]
        return [self.change["version"]]

    def review(self, number, name):
        if name not in self.people:
            return [-6]
        if not self.change:
            return [-12]
        if name == self.change["author"]:
            return [-13]
        change = self.change
        if number != VETO:
            change["approvals"] = {one: change["approvals"][one] for one in change["approvals"] if one != name}
        if number != APPROVE:
            change["vetoes"] = [one for one in change["vetoes"] if one != name]
        if number == APPROVE:
            change["approvals"][name] = change["version"]
            return [change["version"]]
        if number == VETO:
            change["vetoes"].append(name)
            return [len(change["vetoes"])]
        return [0]

    def status(self):
        if not self.change:
            return [0]
        lists = [list(self.change[name].items()) for name in ("paths", "approvals")]
        return status(self.change["author"], self.change["version"], *lists, self.change["vetoes"])


def fits(pattern, path):
    one = "[^/]+"
    written = "/".join([{"*": one, "**": f"{one}(/{one})*"}.get(part, re.escape(part)) for part in pattern.split("/")])
    return re.fullmatch(written, path) is not None


def make_call(chance, plain):
    """A call and what it's to answer, which the plain one has gone through then."""
    number = chance.choice(
        [EDIT, APPROVE, STATUS, VERDICT, MISSING] * 6 + [VETO, WITHDRAW, TOLD] * 3 + [BEGIN, MATCHES, MEMBERS] * 2
        + [FAULT, SHOW, FORM, SAME, RULES]
    )
    name = chance.choice(plain.people * 6 + sorted(plain.groups) + ["nobody", ""])
    path = chance.choice(PATHS * 4 + WRONG_PATHS)
    if number == RULES:
        if chance.random() < 0.6:
            wrong, fault, _ = chance.choice(WRONG_TEXTS)
            return call(RULES, wrong), [-fault]
        return call(RULES, plain.make_rules(chance)), [len(plain.statements)]
    if number in (FAULT, FORM, SAME):
        return make_text_call(chance, number)
    if number in (SHOW, STATUS):
        return call(number), counted("; ".join(plain.texts)) if number == SHOW else plain.status()
    if number in (VERDICT, MISSING):
        told = [-12] if not plain.change else plain.verdict() if number == VERDICT else plain.missing()
        return call(number), told
    if number == MEMBERS:
        people = plain.groups.get(name) or [person for person in plain.people if person == name]
        return call(MEMBERS, name), counted_all(people) if people else [-6]
    if number == MATCHES:
        pattern = chance.choice(PATTERNS + ["", "x/**/y"])
        told = -14 if pattern not in PATTERNS else -11 if path not in PATHS else int(fits(pattern, path))
        return call(MATCHES, pattern, path), [told]
    if number == TOLD:
        return call(TOLD, path), plain.told(path) if path in PATHS else [-11]
    if number == BEGIN:
        return call(BEGIN, name), plain.begin(name)
    if number == EDIT:
        return call(EDIT, path), plain.edit(path)
    return call(number, name), plain.review(number, name)


def make_text_call(chance, number):
    wrong, fault, place = chance.choice(WRONG_TEXTS)
    first, second = Plain().make_rules(chance), Plain().make_rules(chance)
    spread = first.replace(" ", "  ").replace(";", "\n;\n")
    if number == SAME:
        return chance.choice([
            (call(SAME, first, spread), [1]), (call(SAME, first, second), [int(first == second)]),
            (call(SAME, "", wrong), [-4]), (call(SAME, first, "?"), [-2]), (call(SAME, "?", "person"), [-2]),
        ])
    if number == FORM:
        return call(FORM, spread), counted(first)
    return chance.choice([(call(FAULT, first), [0, 0]), (call(FAULT, wrong), [fault, place])])


def make_list(seed, most):
    """At most so many calls, of at most 87000 numbers together, and what they're to answer."""
    chance = random.Random(seed)
    plain = Plain()
    made = [(call(number), told) for number, told in ((SHOW, [0]), (STATUS, [0]), (VERDICT, [-12]), (MISSING, [-12]))]
    made.append((call(TOLD, "x"), [0]))
    made.append((call(RULES, plain.make_rules(chance)), [len(plain.statements)]))
    made.append((call(BEGIN, plain.people[0]), plain.begin(plain.people[0])))
    while len(made) < most and sum([len(one) for one, told in made]) < 80000:
        made.append(make_call(chance, plain))
    return made


class TestLongLists(unittest.TestCase):
    def test_four_hundred_calls_on_one_object(self):
        for seed in range(12):
            made = make_list(seed, 400)
            for place, told in enumerate(ask_all(*[one for one, told in made])):
                self.assertEqual(told, made[place][1], f"seed {seed}, call {place}: {made[place][0]}")

    def test_many_shorter_ones(self):
        for seed in range(100, 160):
            made = make_list(seed, 40)
            for place, told in enumerate(ask_all(*[one for one, told in made])):
                self.assertEqual(told, made[place][1], f"seed {seed}, call {place}: {made[place][0]}")

    def test_all_sixteen_kinds_are_among_them(self):
        self.assertEqual({one[0] for one, told in make_list(0, 400)}, set(range(16)))

    def test_the_list_that_was_handed_in_is_as_it_was(self):
        calls = [number for one, told in make_list(7, 400) for number in one]
        before = list(calls)
        first = answers(calls)
        self.assertEqual(calls, before)
        self.assertEqual(answers(calls), first)


if __name__ == "__main__":
    unittest.main()
