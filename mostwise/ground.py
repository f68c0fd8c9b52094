"""Rules written out over things, and written-out books, which are never changed by anything."""

from mostwise.rules import Fact
from mostwise.words import opposite


def ways_to_give(letters, things):
    ways = [{}]
    # The letters that come later are given within each way of the earlier ones, so the last one goes fastest.
    for letter in letters:
        longer = []
        for way in ways:
            for thing in things:
                given = dict(way)
                given[letter] = thing
                longer.append(given)
        ways = longer
    return ways


def written_out(rule, things):
    letters = rule.letters()
    if len(letters) == 0:
        return [rule]
    return [rule.filled(given) for given in ways_to_give(letters, things)]


class Ground:
    def __init__(self, rules, pairs):
        self.in_order = tuple(rules)
        self.by_head = {}
        for rule in self.in_order:
            self.by_head.setdefault(rule.head, []).append(rule)
        self.pairs = {}
        for pair in pairs:
            self.pairs[(pair[0], pair[1])] = True

    def rules(self):
        return list(self.in_order)

    def ruling(self, statement):
        return list(self.by_head.get(statement, []))

    def speaking(self, statement):
        return [rule for rule in self.ruling(statement) if rule.speaks()]

    def against(self, statement):
        return self.ruling(opposite(statement))

    def beats(self, one, other):
        return (one.label, other.label) in self.pairs

    def statements(self):
        told = {}
        for rule in self.in_order:
            for statement in (rule.head,) + rule.body:
                told[statement] = True
                told[opposite(statement)] = True
        return sorted(told)

    def part(self, some):
        return Ground([rule for rule in self.in_order if rule.head in some], list(self.pairs))


def ground_of(book):
    things = book.things()
    rules = [Fact(statement) for statement in book.facts()]
    for rule in book.rules():
        rules.extend(written_out(rule, things))
    return Ground(rules, book.beats())
