"""Books: things, facts, rules and pairs of beats, put in and taken out, written as a text and read again."""

from mostwise.errors import Doubled, NoBeat, NoFact, NoLabel, NoThing, Ring, TooMany
from mostwise.lines import pair_of, rule_of, things_of
from mostwise.rings import road
from mostwise.rules import Fact
from mostwise.words import is_name

MOST_RULES = 120
MOST_PAIRS = 60


def is_key(thing, told):
    # Of a thing of another kind it may not be asked whether a dict has it.
    return isinstance(thing, str) and thing in told


def count_written_out(rule, things):
    count = 1
    for letter in rule.letters():
        count = count * len(things)
    return count


def checked_things(things):
    told = []
    for thing in things:
        if not is_name(thing) or thing in told:
            raise NoThing(thing)
        told.append(thing)
    return told


class Book:
    def __init__(self, things):
        self.thing_list = checked_things(things)
        # Dicts, as these keep the order in which things came, and what comes again stands behind.
        self.by_statement = {}
        self.by_label = {}
        self.pair_keys = {}

    def things(self):
        return list(self.thing_list)

    def facts(self):
        return list(self.by_statement)

    def rules(self):
        return list(self.by_label.values())

    def beats(self):
        return list(self.pair_keys)

    def many(self):
        return len(self.by_statement) + sum([count_written_out(rule, self.thing_list) for rule in self.rules()])

    def put(self, rule):
        told = self.by_statement if isinstance(rule, Fact) else self.by_label
        key = rule.head if isinstance(rule, Fact) else rule.label
        if key in told:
            raise Doubled(key)
        count = self.many() + count_written_out(rule, self.thing_list)
        if count > MOST_RULES:
            raise TooMany(count)
        told[key] = rule

    def take(self, label):
        if not is_key(label, self.by_label):
            raise NoLabel(label)
        for pair in self.beats():
            if label in pair:
                self.pair_keys.pop(pair)
        return self.by_label.pop(label)

    def forget(self, statement):
        if not is_key(statement, self.by_statement):
            raise NoFact(statement)
        self.by_statement.pop(statement)

    def beat(self, one, other):
        for label in (one, other):
            if not is_key(label, self.by_label):
                raise NoLabel(label)
        if (one, other) in self.pair_keys:
            raise Doubled((one, other))
        back = road(self.beats(), other, one)
        if back is not None:
            raise Ring([one] + back[:-1])
        count = len(self.pair_keys) + 1
        if count > MOST_PAIRS:
            raise TooMany(count)
        self.pair_keys[(one, other)] = True

    def unbeat(self, one, other):
        if not (is_key(one, self.by_label) and is_key(other, self.by_label) and (one, other) in self.pair_keys):
            raise NoBeat((one, other))
        self.pair_keys.pop((one, other))

    def copied(self):
        twin = Book(self.thing_list)
        twin.by_statement = dict(self.by_statement)
        twin.by_label = dict(self.by_label)
        twin.pair_keys = dict(self.pair_keys)
        return twin

    def text(self):
        rows = [" ".join(["things"] + self.thing_list)]
        rows.extend([rule.row() for rule in self.by_statement.values()])
        rows.extend([rule.row() for rule in self.rules()])
        rows.extend([" ".join(("beats",) + pair) for pair in self.pair_keys])
        return "\n".join(rows)


def entry_of(row):
    return pair_of(row) if row.startswith("beats ") else rule_of(row)


def book_of(text):
    rows = text.split("\n")
    things = things_of(rows[0])
    # All rows are looked at ahead of the first that is put in, so that a row that is none is refused first.
    entries = [entry_of(row) for row in rows[1:]]
    book = Book(things)
    for entry in entries:
        if isinstance(entry, tuple):
            book.beat(entry[0], entry[1])
        else:
            book.put(entry)
    return book
