"""[23] to [25], what [2] and [3] say of them, and the interface of mostwise/lines.py."""

import itertools
import re
import unittest

from mostwise.errors import NoRow
from mostwise.lines import pair_of, rule_of, things_of
from mostwise.rules import Block, Fact, Most, Sure
from mostwise.words import is_written_out
from odd import no_texts

SORTS = {"sure": Sure, "most": Most, "block": Block}

# Another way to say the rows of the document, for texts that are some signs off.
PLACE = "(?:[a-z]{1,8}|[A-Z])"
STATEMENT = "-?[a-z]{1,8}(?:\\(" + PLACE + "(?:," + PLACE + ")?\\))?"
LABEL = "[a-z0-9]{1,8}"
FACT = re.compile("fact " + STATEMENT)
OTHER = re.compile("(?:sure|most|block) " + LABEL + ": (?:" + STATEMENT + "(?:, " + STATEMENT + "){0,3} )?-> " + STATEMENT)
BEATS = re.compile("beats " + LABEL + " " + LABEL)
THINGS = re.compile("things(?: [a-z]{1,8}){1,8}")

RULES = [
    "fact rain", "fact -rain", "fact p(a)", "fact -likes(ann,bob)", "fact p(a,a)", "fact fact", "fact beats",
    "sure r1: bird(A) -> flies(A)", "most r2: penguin(A), -sick(A) -> -flies(A)", "block b: -> cold",
    "sure s: -> -p(A,B)", "most m: p, q, s, t -> u", "block 0: p(A), -p(A), p(A), -q(B,C) -> p(A)",
    "sure abcd0189: p(X,Y), q(Y,Z), s(Z,X), t -> u(X,Z)", "most sure: sure -> most", "block fact: fact -> block",
    "sure 99999999: -p -> p", "most r: q(a,b), q(b,a) -> -q(a,a)", "sure things: things -> beats",
]

PAIRS = ["beats a b", "beats b a", "beats r r", "beats 0 9", "beats abcdefgh 01234567", "beats beats beats"]

ROWS_OF_THINGS = ["things a", "things a b", "things b a", "things things", "things ann bob cat",
                  "things a b c d e f g h", "things abcdefgh hgfedcba", "things fact beats"]

NO_RULES = [
    "", " ", "fact", "fact ", "fact  p", " fact p", "fact p ", "fact p q", "fact p, q", "fact: p", "fact r: p", "Fact p",
    "fact r: -> p", "fact -> p", "fact p(A)", "fact p(a,A)", "fact -p(A)", "fact p(A,B)", "fact P", "fact --p", "fact p1",
    "fact p(a, b)", "fact abcdefghi", "fact\tp", "fact p\n", "factp", "facts p", "rain", "p -> q", "-> q", "r: p -> q",
    "sure", "sure ", "sure r", "sure r:", "sure r: ", "sure r: ->", "sure r: -> ", "sure r: p", "sure r: p ->",
    "sure r: p -> ", "sure r: p q", "sure r: p - > q", "sure r: p > q", "sure r: p - q", "sure r: p => q", "sure r: p --> q",
    "sure r: p ->> q", "sure r: p -> -> q", "sure r: p -> q -> s", "sure r: -> -> q", "sure r:-> p", "sure r:  -> p",
    "sure r: ->  p", "sure r: ->p", "sure r -> p", "sure r : -> p", "sure  r: -> p", " sure r: -> p", "sure r: -> p ",
    "sure r:: -> p", "sure :r: -> p", "sure r; -> p", "sure: -> p", "sure : -> p", "sure -> p", "sure-r: -> p",
    "sure r s: -> p", "sure r sure s: -> p", "sure sure r: -> p", "sure R: -> p", "sure r_1: -> p", "sure r-1: -> p",
    "sure r.: -> p", "sure abcdefghi: -> p", "sure 123456789: -> p", "sure ,: -> p",
    "sure r:p -> q", "sure r:xp -> q", "sure r:  p -> q", "sure r: p  -> q", "sure r: p->q", "sure r: p-> q",
    "sure r: p ->q", "sure r: p ->  q", "sure r: p -> q ", "sure r: p -> q.", "sure r: p -> q,",
    "sure r: p,q -> s", "sure r: p , q -> s", "sure r: p ,q -> s", "sure r: p,  q -> s", "sure r: p,, q -> s",
    "sure r: p, , q -> s", "sure r: , p -> s", "sure r: ,p -> s", "sure r: p, -> s", "sure r: p,-> s", "sure r: , -> s",
    "sure r: p q -> s", "sure r: p; q -> s", "sure r: p -> s, t", "sure r: p -> s t", "sure r: p, q, s, t, u -> v",
    "sure r: p, p, p, p, p -> p", "sure r: p(A), p(B), p(C), p(D) -> q", "sure r: p(A,B) -> q(C,D)",
    "sure r: p(A,B), p(C) -> q(D)", "sure r: p(A,B), p(C,D) -> q", "sure r: P -> q", "sure r: p -> Q", "sure r: p -> X",
    "sure r: p(a, b) -> q", "sure r: p(a,b,c) -> q", "sure r: p() -> q", "sure r: - p -> q", "sure r: --p -> q",
    "sure r: p -> --q", "sure r: p -> - q", "Sure r: p -> q", "SURE r: p -> q", "sures r: p -> q", "sur r: p -> q",
    "mostly r: p -> q", "blocks r: p -> q", "no r: p -> q", "open r: p -> q", "beats r: p -> q", "things r: p -> q",
    "rule r: p -> q", "sure\tr: p -> q", "sure r:\tp -> q", "sure r: p\t-> q", "sure r: p ->\tq", "sure r: p -> q\n",
    "\nsure r: p -> q", "sure r: p,\nq -> s", "sure r: p -> q\nfact p", "sure r: p -> q\r", "p" * 4000,
    "sure r: " + "p, " * 1300 + "p -> q", "sure " * 800,
]

NO_PAIRS = [
    "", "beats", "beats ", "beats a", "beats a ", "beats  a", "beats a b ", " beats a b", "beats  a b", "beats a  b",
    "beats a b c", "beats a, b", "beats a,b", "beats a:b", "beats: a b", "beat a b", "Beats a b", "beatsa b", "beats ab",
    "a beats b", "a b", "beats A b", "beats a B", "beats a_ b", "beats -a b", "beats a -b", "beats a p(b)",
    "beats abcdefghi b", "beats a 123456789", "beats\ta b", "beats a\tb", "beats a b\n", "beats a\nb", "\nbeats a b",
    "beats  ", "beats   ", "beats a b\r", "unbeat a b",
]

NO_THINGS = [
    "", "things", "things ", "things  ", "things  a", "things a ", " things a", "things a  b", "things a, b", "things a,b",
    "things: a", "thing a", "Things a", "thingsa", "a", "a b", "things A", "things a B", "things 1", "things a1",
    "things a-b", "things -a", "things p(a)", "things abcdefghi", "things a abcdefghi", "things a a", "things a b a",
    "things a b c d e f g a", "things a b c d e f g h i", "things a b c d e f g h h", "things a b c d e f g h ",
    "things\ta", "things a\tb", "things a\n", "things a\nb", "\nthings a", "things a\r", "things a a a a a a a a",
    "things " + "a " * 1900,
]


def seen(rule):
    return (rule.__class__, rule.label, rule.head, rule.body)


def refused(asked, thing):
    try:
        asked(thing)
    except NoRow as error:
        return error.found is thing
    return False


def is_rule_row(text):
    letters = set(re.findall("[(,]([A-Z])(?=[,)])", text))
    if FACT.fullmatch(text):
        return not letters
    return bool(OTHER.fullmatch(text)) and len(letters) <= 3


def is_row_of_things(text):
    words = text.split(" ")[1:]
    return bool(THINGS.fullmatch(text)) and len(set(words)) == len(words)


def one_off(text, signs):
    """Each text that has one sign too few, too many, or another one, and two that stand side by side put the other way."""
    for at in range(len(text) + 1):
        yield text[:at] + text[at + 1:]
        yield text[:at] + text[at:at + 1] + text[at:]
        yield text[:at] + text[at + 1:at + 2] + text[at:at + 1] + text[at + 2:]
        for sign in signs:
            yield text[:at] + sign + text[at:]
            yield text[:at] + sign + text[at + 1:]


class RulesTest(unittest.TestCase):
    """[23] and [24]"""

    def test_facts(self):
        for head in ("rain", "-rain", "p(a)", "-p(a,b)", "abcdefgh(abcdefgh,a)", "fact", "sure"):
            self.assertEqual(seen(rule_of("fact " + head)), (Fact, "", head, ()))

    def test_the_rows_of_the_document(self):
        self.assertEqual(seen(rule_of("sure r1: bird(A) -> flies(A)")), (Sure, "r1", "flies(A)", ("bird(A)",)))
        self.assertEqual(seen(rule_of("most r2: penguin(A), -sick(A) -> -flies(A)")),
                         (Most, "r2", "-flies(A)", ("penguin(A)", "-sick(A)")))
        self.assertEqual(seen(rule_of("block b: -> cold")), (Block, "b", "cold", ()))

    def test_each_sort_with_none_to_four_premises(self):
        premises = ["p(A,B)", "-p(b)", "q(C)", "p(A,B)"]
        for word, sort in SORTS.items():
            for many in range(5):
                body = premises[:many]
                row = word + " r1: " + "".join([", ".join(body) + " "] if body else []) + "-> -p(A,a)"
                self.assertEqual(seen(rule_of(row)), (sort, "r1", "-p(A,a)", tuple(body)))

    def test_five_premises_are_refused(self):
        for word in SORTS:
            self.assertTrue(refused(rule_of, word + " r1: a, b, c, d, e -> f"))
            self.assertTrue(refused(rule_of, word + " r1: a, a, a, a, a -> a"))

    def test_three_unlike_letters_and_four(self):
        for word in SORTS:
            for row in ("r: p(A,B), q(C) -> s", "r: p(A,B), q(B,C), p(C,A) -> p(B,B)", "r: -> p(A,B)", "r: p(C) -> p(A,B)"):
                self.assertEqual(rule_of(word + " " + row).row(), word + " " + row)
            for row in ("r: p(A,B), q(C,D) -> s", "r: p(A), p(B), p(C), p(D) -> q", "r: p(C,D) -> p(A,B)",
                        "r: p(A,B), p(C) -> p(D)"):
                self.assertTrue(refused(rule_of, word + " " + row), row)

    def test_a_fact_with_a_letter_is_refused(self):
        for row in ("fact p(A)", "fact -p(A)", "fact p(a,B)", "fact p(B,a)", "fact p(A,A)"):
            self.assertTrue(refused(rule_of, row), row)

    def test_what_is_read_is_written_as_the_same_row(self):
        for row in RULES:
            self.assertEqual(rule_of(row).row(), row)

    def test_what_is_written_is_read_as_the_same_rule(self):
        heads = ["p", "-p(a)", "p(A,b)", "-q(A,B)"]
        bodies = [(), ("p",), ("-p", "p"), ("q(B,A)", "q(C)", "q(A)"), ("p", "p", "p", "p")]
        for sort, head, body in itertools.product(SORTS.values(), heads, bodies):
            rule = sort("r0", head, body)
            self.assertEqual(seen(rule_of(rule.row())), seen(rule))
        self.assertEqual(seen(rule_of(Fact("-p(a)").row())), seen(Fact("-p(a)")))

    def test_no_rows(self):
        for row in NO_RULES:
            self.assertTrue(refused(rule_of, row), row[:60])

    def test_each_word_but_the_four(self):
        for word in ("", "a", "facts", "sur", "mos", "bloc", "held", "refused", "beats", "things", "Sure", "SURE"):
            self.assertTrue(refused(rule_of, word + " r: p -> q"), word)
            self.assertTrue(refused(rule_of, word + " p"), word)

    def test_rows_of_the_other_sorts_are_refused(self):
        for row in PAIRS + ROWS_OF_THINGS:
            self.assertTrue(refused(rule_of, row), row)

    def test_things_of_every_other_kind(self):
        for number, thing in enumerate(no_texts()):
            self.assertTrue(refused(rule_of, thing), number)
        self.assertTrue(refused(rule_of, ["fact p"]))
        self.assertTrue(refused(rule_of, Fact("p")))

    def test_rows_that_are_one_sign_off(self):
        for row in RULES:
            for text in one_off(row, " ,:->(A1a\n\tZ"):
                if is_rule_row(text):
                    self.assertEqual(rule_of(text).row(), text)
                else:
                    self.assertTrue(refused(rule_of, text), text)

    def test_every_sign_at_every_place_of_some_rows(self):
        signs = [chr(code) for code in range(32, 127)] + ["\x00", "\n", "\u00e4", "\u00a0", "\u0430", "\u0663"]
        for row in ("fact -p(a)", "most r2: p(A), -q -> s", "block b: -> c"):
            for text in one_off(row, signs):
                if is_rule_row(text):
                    self.assertEqual(rule_of(text).row(), text)
                else:
                    self.assertTrue(refused(rule_of, text), ascii(text))


class PairsTest(unittest.TestCase):
    """[25], beats"""

    def test_a_row_is_read_as_the_tuple_of_both(self):
        for row in PAIRS:
            pair = pair_of(row)
            self.assertIs(pair.__class__, tuple)
            self.assertEqual("beats " + " ".join(pair), row)
            self.assertEqual(len(pair), 2)

    def test_the_one_that_beats_stands_first(self):
        self.assertEqual(pair_of("beats r1 r2"), ("r1", "r2"))
        self.assertEqual(pair_of("beats r2 r1"), ("r2", "r1"))

    def test_two_labels_alike(self):
        self.assertEqual(pair_of("beats r1 r1"), ("r1", "r1"))

    def test_no_rows(self):
        for row in NO_PAIRS + RULES + ROWS_OF_THINGS:
            self.assertTrue(refused(pair_of, row), row)

    def test_things_of_every_other_kind(self):
        for number, thing in enumerate(no_texts() + [("a", "b"), ["beats", "a", "b"]]):
            self.assertTrue(refused(pair_of, thing), number)

    def test_rows_that_are_one_sign_off(self):
        for row in PAIRS:
            for text in one_off(row, [chr(code) for code in range(32, 127)] + ["\n", "\u00e4", "\u0663"]):
                if BEATS.fullmatch(text):
                    self.assertEqual(pair_of(text), tuple(text.split(" ")[1:]))
                else:
                    self.assertTrue(refused(pair_of, text), ascii(text))


class ThingsTest(unittest.TestCase):
    """[25], things"""

    def test_a_row_is_read_as_the_list_in_its_order(self):
        for row in ROWS_OF_THINGS:
            things = things_of(row)
            self.assertIs(things.__class__, list)
            self.assertEqual(things, row.split(" ")[1:])

    def test_one_to_eight_things_and_nine(self):
        names = list("hgfedcbai")
        for many in range(1, 9):
            self.assertEqual(things_of("things " + " ".join(names[:many])), names[:many])
        self.assertTrue(refused(things_of, "things " + " ".join(names)))
        self.assertTrue(refused(things_of, "things"))

    def test_one_twice(self):
        for row in ("things a a", "things a b a", "things a b b", "things a b c d e f g a"):
            self.assertTrue(refused(things_of, row), row)

    def test_no_rows(self):
        for row in NO_THINGS + RULES + PAIRS:
            self.assertTrue(refused(things_of, row), row[:60])

    def test_things_of_every_other_kind(self):
        for number, thing in enumerate(no_texts() + [["things", "a"], ["a"]]):
            self.assertTrue(refused(things_of, thing), number)

    def test_rows_that_are_one_sign_off(self):
        for row in ROWS_OF_THINGS:
            for text in one_off(row, [chr(code) for code in range(32, 127)] + ["\n", "\u00e4"]):
                if is_row_of_things(text):
                    self.assertEqual(things_of(text), text.split(" ")[1:])
                else:
                    self.assertTrue(refused(things_of, text), ascii(text))

    def test_a_told_list_is_new_and_the_askers_own(self):
        told = things_of("things a b")
        told.append("c")
        told[0] = "d"
        self.assertEqual(things_of("things a b"), ["a", "b"])


class WrittenOutTest(unittest.TestCase):
    """[12], as the rows ask it"""

    def test_statements_without_letters_alone(self):
        for text in ("p", "-p", "p(a)", "-p(a,b)"):
            self.assertIs(is_written_out(text), True, text)
        for text in ("p(A)", "-p(a,B)", "p(B,a)", "P", "", "p q", "--p"):
            self.assertIs(is_written_out(text), False, text)
        for number, thing in enumerate(no_texts()):
            self.assertIs(is_written_out(thing), False, number)


if __name__ == "__main__":
    unittest.main()
