"""[31], [33] to [37], what [2] and [4] say of them, and the interface of mostwise/books.py."""

import unittest

import made
from mostwise.books import Book, book_of
from mostwise.errors import (Doubled, MostError, NoBeat, NoFact, NoLabel, NoRow, NoThing, Ring,
                             TooMany)
from mostwise.ground import ground_of, written_out
from mostwise.lines import rule_of
from mostwise.rules import Block, Fact, Most, Sure
from odd import Thorny, no_texts


def told(book):
    return (book.things(), book.facts(), [rule.row() for rule in book.rules()], book.beats(), book.many(), book.text())


def rows(rules):
    return [rule.row() for rule in rules]


def filled(*texts, things=("a", "b")):
    book = Book(list(things))
    for text in texts:
        book.put(rule_of(text))
    return book


def labelled(*labels):
    return filled(*["most " + label + ": -> p" for label in labels])


class BookTest(unittest.TestCase):
    def refused(self, kind, deed, *values):
        """Tells the error, which must be of just this class."""
        with self.assertRaises(MostError) as caught:
            deed(*values)
        self.assertIs(caught.exception.__class__, kind)
        return caught.exception

    def refused_and_unchanged(self, kind, book, deed, *values):
        before = told(book)
        error = self.refused(kind, deed, *values)
        self.assertEqual(told(book), before)
        return error


class MakingTest(BookTest):
    """[31]"""

    def test_at_first_there_is_nothing_but_the_things(self):
        book = Book(["b", "a", "abcdefgh"])
        self.assertEqual(told(book), (["b", "a", "abcdefgh"], [], [], [], 0, "things b a abcdefgh"))

    def test_one_and_eight_things(self):
        for things in (["z"], list("hgfedcba")):
            self.assertEqual(Book(things).things(), things)

    def test_the_first_that_is_no_thing_is_refused(self):
        for wrong in ("", "A", "a1", "p(a)", "-a", "a b", " a", "abcdefghi", "1"):
            self.assertIs(self.refused(NoThing, Book, [wrong]).found, wrong)
            self.assertIs(self.refused(NoThing, Book, ["a", wrong, "B", "a"]).found, wrong)

    def test_things_of_every_other_kind_are_none(self):
        for thing in no_texts():
            self.assertIs(self.refused(NoThing, Book, [thing]).found, thing)
            self.assertIs(self.refused(NoThing, Book, ["a", "b", thing, "a"]).found, thing)

    def test_a_thing_that_stands_ahead_already(self):
        self.assertEqual(self.refused(NoThing, Book, ["a", "a"]).found, "a")
        self.assertEqual(self.refused(NoThing, Book, ["a", "b", "c", "b", "a"]).found, "b")
        self.assertEqual(self.refused(NoThing, Book, ["a", "b", "b", "X"]).found, "b")
        self.assertEqual(self.refused(NoThing, Book, ["a", "b", "X", "b"]).found, "X")

    def test_facts_and_other_rules_in_the_order_in_which_they_were_put_in(self):
        book = filled("most z: -> p", "fact q", "sure a: p -> q", "fact -p(a)", "block m: -> q", "fact b")
        self.assertEqual(book.facts(), ["q", "-p(a)", "b"])
        self.assertEqual(rows(book.rules()), ["most z: -> p", "sure a: p -> q", "block m: -> q"])
        self.assertEqual([rule.__class__ for rule in book.rules()], [Most, Sure, Block])

    def test_pairs_in_the_order_in_which_they_were_told(self):
        book = labelled("a", "b", "c")
        for pair in (("c", "a"), ("b", "a"), ("c", "b")):
            self.assertIsNone(book.beat(*pair))
        self.assertEqual(book.beats(), [("c", "a"), ("b", "a"), ("c", "b")])
        self.assertEqual([pair.__class__ for pair in book.beats()], [tuple] * 3)


class PuttingTest(BookTest):
    """[33]"""

    def test_putting_tells_none(self):
        book = Book(["a"])
        self.assertIsNone(book.put(Fact("p")))
        self.assertIsNone(book.put(Sure("r", "p", [])))

    def test_a_fact_twice(self):
        book = filled("fact p(a)", "fact q")
        self.assertEqual(self.refused_and_unchanged(Doubled, book, book.put, Fact("p(a)")).found, "p(a)")
        book.put(Fact("-p(a)"))
        book.put(Fact("p"))
        self.assertEqual(book.facts(), ["p(a)", "q", "-p(a)", "p"])

    def test_a_label_twice_of_whatever_sorts(self):
        for one in (Sure, Most, Block):
            for other in (Sure, Most, Block):
                book = Book(["a"])
                book.put(one("r1", "p", []))
                self.assertEqual(self.refused_and_unchanged(Doubled, book, book.put, other("r1", "q", ["p"])).found, "r1")

    def test_facts_and_labels_have_nothing_to_do_with_one_another(self):
        book = filled("fact r", "most r: -> r", "fact p", "sure p: -> p", "sure q: -> p")
        self.assertEqual((book.facts(), rows(book.rules())), (["r", "p"], ["most r: -> r", "sure p: -> p", "sure q: -> p"]))

    def test_how_many_there_are(self):
        book = Book(list("abcd"))
        self.assertEqual(book.many(), 0)
        for row, many in (("fact p", 1), ("sure a: -> p", 2), ("most b: p(A) -> q", 6), ("block c: p(A,B) -> q(A)", 22),
                          ("most d: p(A), q(B), p(C) -> q", 86), ("fact p(a)", 87)):
            book.put(rule_of(row))
            self.assertEqual(book.many(), many)
            self.assertEqual(len(ground_of(book).rules()), many)

    def test_how_many_over_one_thing_and_over_eight(self):
        self.assertEqual(filled("most d: p(A), q(B), p(C) -> q", things="a").many(), 1)
        self.assertEqual(filled("most d: p(A), q(B) -> q", things="abcdefgh").many(), 64)
        self.assertEqual(self.refused(TooMany, Book(list("abcdefgh")).put, rule_of("most d: p(A), q(B), p(C) -> q")).count,
                         512)

    def test_a_hundred_and_twenty_and_one_more(self):
        book = Book(["a"])
        for number in range(120):
            book.put(Sure("r" + str(number), "p", []))
        self.assertEqual(book.many(), 120)
        for rule in (Fact("p"), Most("x", "p", []), Block("x", "p(A,B)", ["p(C)"])):
            self.assertEqual(self.refused_and_unchanged(TooMany, book, book.put, rule).count, 121)

    def test_facts_are_counted(self):
        book = Book(list("abcdefgh"))
        names = [one + other for one in "abcdefghijk" for other in "abcdefghijk"]
        for name in names[:56]:
            book.put(Fact(name))
        book.put(rule_of("sure x: -> p(A,B)"))
        self.assertEqual(book.many(), 120)
        self.assertEqual(self.refused_and_unchanged(TooMany, book, book.put, Fact("p")).count, 121)
        self.assertEqual(self.refused_and_unchanged(TooMany, book, book.put, rule_of("most y: -> p(B,B)")).count, 128)
        book.forget("aa")
        book.put(Fact("p"))
        self.assertEqual(book.many(), 120)

    def test_doubled_comes_ahead_of_too_many(self):
        book = filled("fact p", "most x: -> p", *["fact " + one + other for one in "abcdefghijk" for other in "abcdefghijk"]
                      [:118])
        self.assertEqual(book.many(), 120)
        self.assertEqual(self.refused_and_unchanged(Doubled, book, book.put, Fact("p")).found, "p")
        self.assertEqual(self.refused_and_unchanged(Doubled, book, book.put, Sure("x", "q", [])).found, "x")
        self.assertEqual(self.refused_and_unchanged(TooMany, book, book.put, Sure("y", "q", [])).count, 121)
        self.assertEqual(self.refused_and_unchanged(TooMany, book, book.put, Sure("y", "q(A)", [])).count, 122)

    def test_rules_may_name_things_that_the_book_does_not_tell(self):
        book = filled("fact p(z)", "most r: q(z) -> p(A,z)")
        self.assertEqual(rows(ground_of(book).rules()), ["fact p(z)", "most r: q(z) -> p(a,z)", "most r: q(z) -> p(b,z)"])


class BeatingTest(BookTest):
    """[34]"""

    def test_no_label_the_one_first(self):
        book = labelled("a", "b")
        self.assertEqual(self.refused_and_unchanged(NoLabel, book, book.beat, "x", "y").found, "x")
        self.assertEqual(self.refused_and_unchanged(NoLabel, book, book.beat, "x", "a").found, "x")
        self.assertEqual(self.refused_and_unchanged(NoLabel, book, book.beat, "a", "y").found, "y")
        self.assertEqual(self.refused_and_unchanged(NoLabel, book, book.beat, "x", "x").found, "x")

    def test_no_label_of_anything_at_all(self):
        book = labelled("a", "b")
        for thing in no_texts() + ["", "A", " a", "p(a)", "p"]:
            self.assertIs(self.refused_and_unchanged(NoLabel, book, book.beat, thing, "a").found, thing)
            self.assertIs(self.refused_and_unchanged(NoLabel, book, book.beat, "a", thing).found, thing)
            self.assertIs(self.refused_and_unchanged(NoLabel, book, book.beat, thing, None).found, thing)

    def test_facts_have_no_label(self):
        book = filled("fact p", "most a: -> p")
        for one, other, found in (("", "a", ""), ("a", "", ""), ("p", "a", "p")):
            self.assertEqual(self.refused_and_unchanged(NoLabel, book, book.beat, one, other).found, found)

    def test_a_pair_twice(self):
        book = labelled("a", "b")
        book.beat("a", "b")
        self.assertEqual(self.refused_and_unchanged(Doubled, book, book.beat, "a", "b").found, ("a", "b"))

    def test_rings(self):
        book = labelled("a", "b", "c", "d")
        for pair in (("a", "b"), ("b", "c"), ("c", "d")):
            book.beat(*pair)
        for one, other, chain in (("b", "a", ["b", "a"]), ("c", "a", ["c", "a", "b"]), ("d", "a", ["d", "a", "b", "c"]),
                                  ("d", "b", ["d", "b", "c"]), ("a", "a", ["a"]), ("d", "d", ["d"])):
            self.assertEqual(self.refused_and_unchanged(Ring, book, book.beat, one, other).chain, chain)
        book.beat("a", "d")
        self.assertEqual(self.refused(Ring, book.beat, "d", "a").chain, ["d", "a"])

    def test_the_ring_is_the_shortest_and_of_these_the_least(self):
        book = labelled("s", "x", "b", "c", "d", "z")
        for pair in (("s", "x"), ("x", "z"), ("s", "d"), ("d", "z"), ("s", "b"), ("b", "c"), ("c", "z"), ("s", "c")):
            book.beat(*pair)
        self.assertEqual(self.refused_and_unchanged(Ring, book, book.beat, "z", "s").chain, ["z", "s", "c"])
        book.unbeat("s", "c")
        self.assertEqual(self.refused_and_unchanged(Ring, book, book.beat, "z", "s").chain, ["z", "s", "d"])

    def test_each_label_of_a_ring_beats_the_next_and_the_last_the_first(self):
        for number in range(150):
            book = made.book(number)
            labels = [rule.label for rule in book.rules()]
            for one in labels:
                for other in labels:
                    try:
                        book.copied().beat(one, other)
                    except Ring as error:
                        chain = error.chain
                        self.assertEqual(chain[:2], [one, other][:len(chain)])
                        self.assertEqual(len(set(chain)), len(chain))
                        pairs = book.beats() + [(one, other)]
                        self.assertTrue(all(pair in pairs for pair in zip(chain, chain[1:] + chain[:1])))
                    except Doubled:
                        self.assertIn((one, other), book.beats())

    def test_a_rings_list_is_the_takers_own(self):
        book = labelled("a", "b")
        book.beat("a", "b")
        self.refused(Ring, book.beat, "b", "a").chain.clear()
        self.assertEqual(self.refused(Ring, book.beat, "b", "a").chain, ["b", "a"])

    def test_sixty_pairs_and_one_more(self):
        labels = ["r" + str(number) for number in range(12)]
        book = labelled(*labels)
        pairs = [(one, other) for at, one in enumerate(labels) for other in labels[at + 1:]]
        for pair in pairs[:60]:
            book.beat(*pair)
        self.assertEqual(book.beats(), pairs[:60])
        self.assertEqual(self.refused_and_unchanged(TooMany, book, book.beat, *pairs[60]).count, 61)
        self.assertEqual(self.refused_and_unchanged(NoLabel, book, book.beat, "r0", "x").found, "x")
        self.assertEqual(self.refused_and_unchanged(Doubled, book, book.beat, *pairs[0]).found, pairs[0])
        self.assertEqual(self.refused_and_unchanged(Ring, book, book.beat, "r1", "r0").chain, ["r1", "r0"])
        self.assertEqual(self.refused_and_unchanged(Ring, book, book.beat, "r11", "r11").chain, ["r11"])
        book.unbeat(*pairs[3])
        book.beat(*pairs[60])
        self.assertEqual(len(book.beats()), 60)

    def test_a_pair_is_taken_away(self):
        book = labelled("a", "b", "c")
        book.beat("a", "b")
        book.beat("b", "c")
        self.assertIsNone(book.unbeat("a", "b"))
        self.assertEqual(book.beats(), [("b", "c")])
        book.beat("b", "a")
        book.unbeat("b", "c")
        book.beat("b", "c")
        self.assertEqual(book.beats(), [("b", "a"), ("b", "c")])

    def test_any_other_two_things_are_no_pair(self):
        book = labelled("a", "b", "c")
        book.beat("a", "b")
        for one, other in (("b", "a"), ("a", "c"), ("a", "a"), ("x", "y"), ("", ""), ("a", ""), ("a b", "b")):
            self.assertEqual(self.refused_and_unchanged(NoBeat, book, book.unbeat, one, other).found, (one, other))
        for thing in no_texts():
            for one, other in ((thing, "b"), ("a", thing), (thing, thing)):
                found = self.refused_and_unchanged(NoBeat, book, book.unbeat, one, other).found
                self.assertIs(found.__class__, tuple)
                self.assertIs(found[0], one)
                self.assertIs(found[1], other)
        book.unbeat("a", "b")
        self.assertEqual(self.refused_and_unchanged(NoBeat, book, book.unbeat, "a", "b").found, ("a", "b"))


class TakingTest(BookTest):
    """[35]"""

    def test_the_rule_is_told(self):
        rule = rule_of("most b: q(A) -> p(A)")
        book = Book(["a"])
        book.put(Fact("q"))
        book.put(rule)
        taken = book.take("b")
        self.assertEqual((taken.__class__, taken.row()), (Most, "most b: q(A) -> p(A)"))
        self.assertEqual((book.facts(), book.rules(), book.many()), (["q"], [], 1))

    def test_all_pairs_with_its_label_go(self):
        book = labelled("a", "b", "c", "d")
        for pair in (("a", "b"), ("c", "b"), ("c", "a"), ("b", "d"), ("a", "d")):
            book.beat(*pair)
        book.take("b")
        self.assertEqual(book.beats(), [("c", "a"), ("a", "d")])
        self.assertEqual([rule.label for rule in book.rules()], ["a", "c", "d"])
        book.put(rule_of("sure b: -> q"))
        self.assertEqual(book.beats(), [("c", "a"), ("a", "d")])
        book.beat("d", "b")

    def test_what_is_no_label_there(self):
        book = filled("fact p", "most a: -> p")
        for thing in no_texts() + ["", "p", "b", "A", "most a", "a "]:
            self.assertIs(self.refused_and_unchanged(NoLabel, book, book.take, thing).found, thing)
        book.take("a")
        self.assertEqual(self.refused_and_unchanged(NoLabel, book, book.take, "a").found, "a")

    def test_a_fact_is_forgotten(self):
        book = filled("fact p", "fact -p", "fact p(a)", "most p: -> p")
        self.assertIsNone(book.forget("p"))
        self.assertEqual((book.facts(), rows(book.rules())), (["-p", "p(a)"], ["most p: -> p"]))

    def test_what_is_no_fact_there(self):
        book = filled("fact p", "most q: -> s")
        for thing in no_texts() + ["", "-p", "q", "s", "p(a)", "fact p", "P"]:
            self.assertIs(self.refused_and_unchanged(NoFact, book, book.forget, thing).found, thing)
        book.forget("p")
        self.assertEqual(self.refused_and_unchanged(NoFact, book, book.forget, "p").found, "p")

    def test_what_is_put_in_again_stands_behind(self):
        book = filled("fact p", "fact q", "most a: -> p", "most b: -> p")
        book.forget("p")
        book.put(Fact("p"))
        book.put(book.take("a"))
        self.assertEqual((book.facts(), rows(book.rules())), (["q", "p"], ["most b: -> p", "most a: -> p"]))

    def test_what_was_taken_out_may_come_as_another_rule(self):
        book = filled("most a: -> p")
        book.take("a")
        book.put(rule_of("block a: q -> s"))
        self.assertEqual(rows(book.rules()), ["block a: q -> s"])


class CopyTest(BookTest):
    """[35], and [2]"""

    def deeds(self):
        return [lambda book: book.put(Fact("new")), lambda book: book.put(Sure("new", "p", [])),
                lambda book: book.take("a"), lambda book: book.forget("p"), lambda book: book.beat("c", "b"),
                lambda book: book.unbeat("a", "b")]

    def made(self):
        book = filled("fact p", "most a: q(A) -> p(A)", "block b: -> q", "sure c: -> s")
        book.beat("a", "b")
        return book

    def test_a_copy_tells_the_same(self):
        for number in range(100):
            book = made.book(number)
            copy = book.copied()
            self.assertIs(copy.__class__, Book)
            self.assertIsNot(copy, book)
            self.assertEqual(told(copy), told(book))

    def test_a_copy_has_nothing_to_do_with_its_book(self):
        for deed in self.deeds():
            book = self.made()
            copy, before = book.copied(), told(book)
            deed(copy)
            self.assertEqual(told(book), before)
            self.assertNotEqual(told(copy), before)
            other = book.copied()
            deed(book)
            self.assertEqual(told(other), before)
            self.assertEqual(told(book), told(copy))

    def test_a_copy_refuses_what_its_book_refuses(self):
        copy = self.made().copied()
        self.assertEqual(self.refused(Doubled, copy.put, Fact("p")).found, "p")
        self.assertEqual(self.refused(Ring, copy.beat, "b", "a").chain, ["b", "a"])

    def test_lists_that_are_told_are_the_askers_own(self):
        book = self.made()
        before = told(book)
        for ask in (book.things, book.facts, book.rules, book.beats):
            self.assertIs(ask().__class__, list)
            ask().append("x")
            ask().clear()
            kept = ask()
            kept.reverse()
            kept.append("y")
        self.assertEqual(told(book), before)

    def test_lists_that_are_handed_in_stay_and_may_be_changed_behind(self):
        things = ["a", "b"]
        book = Book(things)
        things.append("c")
        self.assertEqual(book.things(), ["a", "b"])
        body = ["q"]
        book.put(Most("m", "p", body))
        body.append("s")
        self.assertEqual(rows(book.rules()), ["most m: q -> p"])

    def test_two_books_share_nothing(self):
        one, other = Book(["a"]), Book(["a"])
        one.put(Fact("p"))
        one.put(Sure("r", "p", []))
        self.assertEqual(told(other), told(Book(["a"])))

    def test_what_was_told_ahead_of_a_deed_stays(self):
        book = self.made()
        facts, rules, beats = book.facts(), book.rules(), book.beats()
        for deed in self.deeds()[:4]:
            deed(book)
        self.assertEqual((facts, rows(rules), beats),
                         (["p"], ["most a: q(A) -> p(A)", "block b: -> q", "sure c: -> s"], [("a", "b")]))


WHOLE = "\n".join(["things tux ann", "fact bird(tux)", "fact -cold", "most r1: bird(A) -> flies(A)",
                   "sure r2: -> s", "block r3: p(A), q(B) -> -flies(A)", "beats r1 r3", "beats r2 r3"])


class TextTest(BookTest):
    """[36]"""

    def test_things_facts_rules_pairs_each_in_its_order(self):
        book = Book(["tux", "ann"])
        for row in ("most r1: bird(A) -> flies(A)", "fact bird(tux)", "sure r2: -> s", "fact -cold",
                    "block r3: p(A), q(B) -> -flies(A)"):
            book.put(rule_of(row))
        book.beat("r1", "r3")
        book.beat("r2", "r3")
        self.assertEqual(book.text(), WHOLE)

    def test_a_text_is_read_as_a_book_with_the_same_text(self):
        self.assertEqual(book_of(WHOLE).text(), WHOLE)
        for number in range(150):
            book = made.book(number)
            again = book_of(book.text())
            self.assertIs(again.__class__, Book)
            self.assertEqual(told(again), told(book))

    def test_a_book_of_things_alone(self):
        self.assertEqual(told(book_of("things b a")), (["b", "a"], [], [], [], 0, "things b a"))

    def test_rows_may_stand_in_any_order_but_a_pair_behind_its_rules(self):
        book = book_of("things a\nmost r: -> p\nfact q\nsure s: -> p\nbeats r s\nblock t: -> p\nfact p\nbeats t r")
        self.assertEqual((book.facts(), book.beats()), (["q", "p"], [("r", "s"), ("t", "r")]))
        self.assertEqual(rows(book.rules()), ["most r: -> p", "sure s: -> p", "block t: -> p"])
        self.assertEqual(self.refused(NoLabel, book_of, "things a\nbeats r s\nmost r: -> p\nmost s: -> p").found, "r")
        self.assertEqual(self.refused(NoLabel, book_of, "things a\nmost r: -> p\nbeats r s\nmost s: -> p").found, "s")

    def test_the_text_without_signs(self):
        self.assertEqual(self.refused(NoRow, book_of, "").found, "")

    def test_the_first_row_must_be_one_of_things(self):
        for first in ("", " ", "fact p", "most r: -> p", "beats a b", "things", "things a a", "things A", "thing a",
                      "things a b c d e f g h i", " things a", "things a "):
            for later in ([], ["fact p"], ["nonsense"], ["things a"], [""]):
                self.assertEqual(self.refused(NoRow, book_of, "\n".join([first] + later)).found, first)

    def test_later_rows_are_of_facts_rules_and_pairs(self):
        for wrong in ("", " ", "things b", "things a", "fact", "fact p(A)", "fact p ", "most r -> p", "beats r", "beats r r r",
                      "take r", "nonsense", "beats  r r", "beats"):
            for rows_ahead in ([], ["fact q"], ["most r: -> p", "most s: -> p", "beats r s"]):
                for behind in ([], ["fact z"], ["nothing else"], ["things A"]):
                    text = "\n".join(["things a"] + rows_ahead + [wrong] + behind)
                    self.assertEqual(self.refused(NoRow, book_of, text).found, wrong)

    def test_line_feeds_too_many(self):
        for text in ("things a\n", "\nthings a", "things a\n\nfact p", "things a\nfact p\n"):
            self.assertEqual(self.refused(NoRow, book_of, text).found, "")
        self.assertEqual(self.refused(NoRow, book_of, "things a\r\nfact p").found, "things a\r")

    def test_a_row_that_is_none_comes_ahead_of_all_that_is_put_in(self):
        for due in ("fact p\nfact p", "most r: -> p\nsure r: -> p", "beats x y", "most r: -> p\nbeats r r",
                    "sure r: -> p(A,B)\nsure s: p(A), p(B), p(C) -> q"):
            text = "things a b c d e f g h\n" + due
            self.assertEqual(self.refused(NoRow, book_of, text + "\nnonsense").found, "nonsense")
            self.assertNotIsInstance(self.raised(book_of, text), NoRow)

    def raised(self, deed, *values):
        with self.assertRaises(MostError) as caught:
            deed(*values)
        return caught.exception

    def test_refusals_of_what_is_put_in_the_first_row_first(self):
        self.assertEqual(self.refused(Doubled, book_of, "things a\nfact p\nfact p\nbeats x y").found, "p")
        self.assertEqual(self.refused(Doubled, book_of, "things a\nmost r: -> p\nsure r: -> q").found, "r")
        self.assertEqual(self.refused(NoLabel, book_of, "things a\nbeats x y\nfact p\nfact p").found, "x")
        self.assertEqual(self.refused(Ring, book_of, "things a\nmost r: -> p\nbeats r r").chain, ["r"])
        self.assertEqual(self.refused(Ring, book_of, "things a\nmost r: -> p\nmost s: -> p\nbeats r s\nbeats s r").chain,
                         ["s", "r"])
        self.assertEqual(self.refused(Doubled, book_of, "things a\nmost r: -> p\nmost s: -> p\nbeats r s\nbeats r s").found,
                         ("r", "s"))
        text = "things a b c d e f g h\nsure r: -> p(A,B)\nsure s: -> -p(A,B)\nfact p\nfact p"
        self.assertEqual(self.refused(TooMany, book_of, text).count, 128)

    def test_a_hundred_and_twenty_rows(self):
        text = "things a\n" + "\n".join("sure r" + str(number) + ": -> p" for number in range(120))
        self.assertEqual(book_of(text).text(), text)
        self.assertEqual(self.refused(TooMany, book_of, text + "\nfact p").count, 121)


class GroundOfABookTest(BookTest):
    """[37], over a real book"""

    def test_facts_first_then_each_rule_written_out_and_its_pairs(self):
        book = book_of(WHOLE)
        ground = ground_of(book)
        wanted = ["fact bird(tux)", "fact -cold"]
        for rule in book.rules():
            wanted += rows(written_out(rule, ["tux", "ann"]))
        self.assertEqual(rows(ground.rules()), wanted)
        self.assertEqual(len(wanted), book.many())
        pairs = {(one.label, other.label) for one in ground.rules() for other in ground.rules() if ground.beats(one, other)}
        self.assertEqual(pairs, {("r1", "r3"), ("r2", "r3")})

    def test_a_ground_is_not_touched_by_later_deeds(self):
        book = book_of(WHOLE)
        ground = ground_of(book)
        before = rows(ground.rules())
        book.take("r3")
        book.forget("-cold")
        book.put(Fact("p"))
        self.assertEqual(rows(ground.rules()), before)
        self.assertTrue(ground.beats(ground.rules()[2], ground.rules()[5]))


class ThornyTest(BookTest):
    def test_a_thing_that_may_not_be_compared_is_refused_all_the_same(self):
        thing = Thorny()
        book = labelled("a", "b")
        book.beat("a", "b")
        self.assertIs(self.refused(NoThing, Book, ["a", thing]).found, thing)
        self.assertIs(self.refused(NoLabel, book.take, thing).found, thing)
        self.assertIs(self.refused(NoLabel, book.beat, "a", thing).found, thing)
        self.assertIs(self.refused(NoFact, book.forget, thing).found, thing)
        self.assertIs(self.refused(NoBeat, book.unbeat, "a", thing).found[1], thing)


if __name__ == "__main__":
    unittest.main()
