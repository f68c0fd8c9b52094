"""Kept books: answers that are kept while facts, rules and pairs are put in and taken out."""

from mostwise.among import keyed
from mostwise.ground import ground_of, written_out
from mostwise.leaning import leaners
from mostwise.mostly import Answers, answer_by, most_rounds
from mostwise.sure import sure_rounds

NOWHERE = "no"
WORD_OF = {"surely": "held", "mostly": "held", "no": "refused"}


def words_of_answers(answers):
    words = {}
    for q in answers:
        if answers[q] in WORD_OF:
            words[q] = WORD_OF[answers[q]]
    return words


def answers_of_others(ground, some, before):
    told = {}
    looked_at = keyed(some)
    for q in ground.statements():
        # What came in by this deed as a premise alone has no rule of its own, and so the answer of what stood nowhere.
        if q not in looked_at:
            told[q] = before.get(q, NOWHERE)
    return told


def answers_anew(ground, some, others):
    # Of the statements of the list alone, by the answers of all others, which stay as they are.
    sures = keyed([q for q in others if others[q] == "surely"])
    sures.update(sure_rounds(ground.part(some).rules(), list(sures)))
    came = most_rounds(ground, some, sures, words_of_answers(others))
    told = {}
    for q in some:
        told[q] = answer_by(q in sures, came[q][0] if q in came else "")
    return told


class Kept:
    def __init__(self, book):
        self.own_book = book.copied()
        self.own_ground = ground_of(self.own_book)
        self.by_statement = dict(Answers(self.own_ground).listed())
        self.last_looked = []

    def put(self, rule):
        self.own_book.put(rule)
        return self.renewed(self.heads_of(rule))

    def take(self, label):
        return self.renewed(self.heads_of(self.own_book.take(label)))

    def forget(self, statement):
        self.own_book.forget(statement)
        return self.renewed([statement])

    def beat(self, one, other):
        self.own_book.beat(one, other)
        return self.renewed(self.heads_with(one, other))

    def unbeat(self, one, other):
        self.own_book.unbeat(one, other)
        return self.renewed(self.heads_with(one, other))

    def heads_of(self, rule):
        return [one.head for one in written_out(rule, self.own_book.things())]

    def heads_with(self, one, other):
        return [rule.head for rule in self.own_ground.rules() if rule.label in (one, other)]

    def renewed(self, heads):
        before = self.by_statement
        self.own_ground = ground_of(self.own_book)
        self.last_looked = leaners(self.own_ground, heads)
        others = answers_of_others(self.own_ground, self.last_looked, before)
        fresh = answers_anew(self.own_ground, self.last_looked, others)
        self.by_statement = {}
        for q in self.own_ground.statements():
            self.by_statement[q] = fresh[q] if q in fresh else others[q]
        asked = [(q, before.get(q, NOWHERE), fresh[q]) for q in self.last_looked]
        return [change for change in asked if change[1] != change[2]]

    def answer(self, statement):
        return self.by_statement.get(statement, NOWHERE)

    def listed(self):
        return sorted(self.by_statement.items())

    def looked(self):
        return list(self.last_looked)

    def book(self):
        return self.own_book.copied()

    def ground(self):
        return self.own_ground
