"""Rows that are read: as a rule, as a pair of beats, as a list of things."""

from mostwise.errors import NoRow
from mostwise.rules import Block, Fact, Most, Sure
from mostwise.words import is_label, is_name, is_statement, is_written_out

FACT = "fact "
MOST_PREMISES = 4
MOST_LETTERS = 3
MOST_THINGS = 8


def words_of(row):
    # A thing of another kind has no words, and so is never a row.
    return row.split(" ") if isinstance(row, str) else []


def fact_in(row):
    head = row[len(FACT):]
    return Fact(head) if is_written_out(head) else None


def made(word, label, head, body):
    if word == "sure":
        return Sure(label, head, body)
    if word == "most":
        return Most(label, head, body)
    if word == "block":
        return Block(label, head, body)
    return None


def premises_in(ahead):
    # The premises stand ahead of the arrow with one blank behind them; where there are none, nothing stands there.
    return [] if ahead == "" else ahead[:-1].split(", ")


def labelled_in(row):
    cut = row.partition(": ")
    words = words_of(cut[0])
    sides = cut[2].partition("-> ")
    body = premises_in(sides[0])
    if len(words) != 2 or not is_label(words[1]) or len(body) > MOST_PREMISES:
        return None
    if not all([is_statement(text) for text in [sides[2]] + body]):
        return None
    rule = made(words[0], words[1], sides[2], body)
    if rule is None or len(rule.letters()) > MOST_LETTERS:
        return None
    return rule


def rule_of(row):
    rule = None
    if isinstance(row, str):
        rule = fact_in(row) if row.startswith(FACT) else labelled_in(row)
    # Whatever was cut off too freely above is seen here: the row must be just what the rule is written as.
    if rule is None or rule.row() != row:
        raise NoRow(row)
    return rule


def pair_of(row):
    words = words_of(row)
    if len(words) != 3 or words[0] != "beats" or not (is_label(words[1]) and is_label(words[2])):
        raise NoRow(row)
    return (words[1], words[2])


def things_of(row):
    words = words_of(row)
    things = words[1:]
    if words[:1] != ["things"] or not 1 <= len(things) <= MOST_THINGS:
        raise NoRow(row)
    if not all([is_name(thing) for thing in things]) or len(set(things)) < len(things):
        raise NoRow(row)
    return things
