"""A desk: lines that are told, one at a time, and answered with lists of texts."""

from mostwise.books import Book
from mostwise.errors import NoRow, NoStand, NoTurn
from mostwise.kept import Kept
from mostwise.leaning import leans_on
from mostwise.lines import pair_of, rule_of, things_of
from mostwise.mostly import HELD, REFUSED
from mostwise.opens import open_of
from mostwise.papers import paper_of
from mostwise.talks import Talk
from mostwise.turning import turned
from mostwise.weighing import weighed
from mostwise.words import is_label, is_written_out

FIGURES = "0123456789"
MOST_FIGURES = 6
RULE_WORDS = ("fact", "sure", "most", "block")
DEED_WORDS = ("take", "forget", "unbeat")
TALK_WORDS = ("table", "stand", "lay", "wish", "press")

# What stands behind the first word: L a label, S a statement without letters, W held or refused, N a number.
FORMS = {
    "take": "L", "forget": "S", "unbeat": "LL",
    "ask": "S", "all": "", "looked": "", "book": "",
    "why": "S", "open": "S", "weigh": "S", "leans": "S", "turn": "S",
    "talk": "WS", "table": "", "stand": "", "lay": "", "wish": "", "press": "N",
}


def is_number(word):
    if not 1 <= len(word) <= MOST_FIGURES or not all([sign in FIGURES for sign in word]):
        return False
    return word == "0" or not word.startswith("0")


def fits(form, word):
    if form == "L":
        return is_label(word)
    if form == "S":
        return is_written_out(word)
    if form == "W":
        return word in (HELD, REFUSED)
    return is_number(word)


def all_fit(forms, words):
    return len(forms) == len(words) and all([fits(form, word) for form, word in zip(forms, words)])


def is_line(words):
    return words[0] in FORMS and all_fit(FORMS[words[0]], words[1:])


def is_things(line):
    try:
        things_of(line)
    except NoRow:
        return False
    return True


def claims_in(line):
    claims = [text.split(" ") for text in line[len("lay "):].split(", ")]
    if not all([all_fit("WS", words) for words in claims]):
        raise NoRow(line)
    return [(words[0], words[1]) for words in claims]


def joined(entries):
    return [" ".join(entry) for entry in entries]


def steps_told(sures, rows):
    return ["sure " + statement for statement in sures] + joined(rows)


def open_told(told):
    return steps_told(told[0], told[1]) + ["open " + statement for statement in told[2]]


def label_told(label):
    return "." if label == "" else label


def weighed_told(told):
    lines = [["for", label_told(entry[0]), entry[1]] for entry in told[0]]
    for entry in told[1]:
        lines.append(["against", label_told(entry[0]), entry[1]] + [str(place) for place in entry[2]])
    return joined(lines)


def deed_told(kept, words):
    if words[0] == "take":
        return joined(kept.take(words[1]))
    if words[0] == "forget":
        return joined(kept.forget(words[1]))
    return joined(kept.unbeat(words[1], words[2]))


def asked_told(kept, words):
    if words[0] == "ask":
        return [kept.answer(words[1])]
    if words[0] == "all":
        return joined(kept.listed())
    if words[0] == "looked":
        return kept.looked()
    if words[0] == "book":
        return kept.book().text().split("\n")
    return shown(kept, words[0], words[1])


def shown(kept, word, statement):
    ground = kept.ground()
    if word == "why":
        paper = paper_of(ground, statement)
        return steps_told(paper[0], paper[1])
    if word == "open":
        return open_told(open_of(ground, statement))
    if word == "weigh":
        return weighed_told(weighed(ground, statement))
    if word == "leans":
        return leans_on(ground, statement)
    facts = turned(kept.book(), statement)
    return ["-"] if facts is None else list(facts)


def laid(talk, premises):
    talk.stood(premises)
    return joined(premises)


def talk_told(talk, words):
    if words[0] == "table":
        return ["over"] if talk.over() else joined([talk.now()])
    if words[0] == "wish":
        place = talk.wish()
        return ["-"] if place is None else [str(place)]
    if words[0] == "press":
        talk.asked_on(int(words[1]))
        return joined([talk.now()])
    premises = talk.stand()
    if words[0] == "lay":
        # A claim that is not so does not follow from nothing: it is refused there, behind what is due ahead of it.
        return laid(talk, [] if premises is None else premises)
    if premises is None:
        raise NoStand(talk.now())
    return joined(premises)


class Desk:
    def __init__(self):
        self.kept = None
        self.talk = None

    def say(self, line):
        if is_things(line):
            self.kept = Kept(Book(things_of(line)))
            self.talk = None
            return []
        if self.kept is None or not isinstance(line, str):
            raise NoRow(line)
        words = line.split(" ")
        if words[0] in RULE_WORDS:
            return joined(self.kept.put(rule_of(line)))
        if words[0] == "beats":
            pair = pair_of(line)
            return joined(self.kept.beat(pair[0], pair[1]))
        if line.startswith("lay "):
            premises = claims_in(line)
            return laid(self.begun_talk(), premises)
        if not is_line(words):
            raise NoRow(line)
        return self.told(words)

    def told(self, words):
        if words[0] in DEED_WORDS:
            return deed_told(self.kept, words)
        if words[0] in TALK_WORDS:
            return talk_told(self.begun_talk(), words)
        if words[0] == "talk":
            self.talk = Talk(self.kept.ground(), (words[1], words[2]))
            return []
        return asked_told(self.kept, words)

    def begun_talk(self):
        if self.talk is None:
            raise NoTurn()
        return self.talk
