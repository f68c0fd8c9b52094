"""Books and grounds of all sorts, made by numbers that are the same each time."""

import random

from mostwise.books import Book
from mostwise.errors import MostError
from mostwise.ground import Ground
from mostwise.lines import pair_of, rule_of
from mostwise.mostly import Answers
from mostwise.rules import Block, Fact, Most, Sure


def read_ground(*rows):
    """The ground of the rules and pairs that are written as these rows."""
    beats = [row for row in rows if row.startswith("beats ")]
    return Ground([rule_of(row) for row in rows if row not in beats], [pair_of(row) for row in beats])


def statement(source, names, places=("",)):
    return source.choice(["", "", "-"]) + source.choice(names) + source.choice(places)


def rules(source, names, many, places=("",)):
    told = []
    for number in range(many):
        head = statement(source, names, places)
        body = [statement(source, names, places) for _ in range(source.choice([0, 1, 1, 1, 2, 2, 3]))]
        sort = source.choice([Sure, Most, Most, Most, Most, Block])
        told.append(sort("r" + str(number), head, body))
    return told


def pairs(source, labels, rings):
    told = []
    for _ in range(source.randint(0, 2 * len(labels))):
        one, other = source.choice(labels), source.choice(labels)
        if rings or labels.index(one) < labels.index(other):
            told.append((one, other))
    return told


def ground_parts(number, rings=False):
    """Rules and pairs of a ground; small ones, so that they have much to do with one another."""
    source = random.Random(number)
    names = ["p", "q", "s", "t", "u", "v"][:source.randint(2, 6)]
    told = [Fact(statement(source, names)) for _ in range(source.randint(0, 2))]
    told += rules(source, names, source.randint(1, 14))
    source.shuffle(told)
    labels = [rule.label for rule in told if rule.label]
    source.shuffle(labels)
    return told, pairs(source, labels, rings)


def ground(number, rings=False):
    told, beats = ground_parts(number, rings)
    return Ground(told, beats)


def try_to(deed, *values):
    try:
        return deed(*values)
    except MostError:
        return None


def book(number, facts=4, many=8):
    """A book over two things, some rules with letters; what the book refuses is left out."""
    source = random.Random(number)
    names = ["p", "q", "s", "t"][:source.randint(2, 4)]
    told = Book(["a", "b"][:source.randint(1, 2)])
    for _ in range(source.randint(0, facts)):
        try_to(told.put, Fact(statement(source, names, ("", "(a)", "(b)"))))
    for rule in rules(source, names, source.randint(1, many), ("", "(a)", "(A)", "(A)", "(B)")):
        try_to(told.put, rule)
    labels = [rule.label for rule in told.rules()]
    source.shuffle(labels)
    for one, other in pairs(source, labels, True):
        try_to(told.beat, one, other)
    return told


def all_so(here):
    """All claims that are so in a ground, in an order in which each follows from those ahead."""
    answers = Answers(here)
    decided = [q for q in here.statements() if answers.answer(q) != "open"]
    return [("held" if answers.held(q) else "refused", q) for q in sorted(decided, key=answers.rank)]
