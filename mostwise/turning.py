"""Asking by the part that a statement leans on, and which facts would have to go for another answer."""

from mostwise.errors import TooMany
from mostwise.ground import Ground, ground_of
from mostwise.leaning import leans_on
from mostwise.mostly import Answers
from mostwise.rules import Fact

MOST_FACTS = 12
MOST_GONE = 3


def asked(ground, statement):
    return Answers(ground.part(leans_on(ground, statement))).answer(statement)


def one_longer(sets, many):
    # Each list of places goes on with each place behind its last one, so the lists stay in their order.
    told = []
    for places in sets:
        for place in range(places[-1] + 1 if len(places) > 0 else 0, many):
            told.append(places + [place])
    return told


def is_gone(rule, gone):
    return isinstance(rule, Fact) and rule.head in gone


def answer_without(rules, pairs, gone, statement):
    return Answers(Ground([rule for rule in rules if not is_gone(rule, gone)], pairs)).answer(statement)


def turned(book, statement):
    ground = ground_of(book)
    leaned = leans_on(ground, statement)
    facts = [fact for fact in book.facts() if fact in leaned]
    if len(facts) > MOST_FACTS:
        raise TooMany(len(facts))
    # Facts have no premises, so what the statement leans on stays the same without them, and its part is enough.
    rules = ground.part(leaned).rules()
    whole = answer_without(rules, book.beats(), [], statement)
    sets = [[]]
    for size in range(MOST_GONE):
        sets = one_longer(sets, len(facts))
        for places in sets:
            gone = [facts[place] for place in places]
            if answer_without(rules, book.beats(), gone, statement) != whole:
                return tuple(gone)
    return None
