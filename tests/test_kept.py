"""[80] to [84], what [2], [4] and [5] say of them, and the interface of mostwise/kept.py."""

import random
import unittest

import made
import oracle
from mostwise.books import Book, book_of
from mostwise.errors import Doubled, MostError, NoBeat, NoFact, NoLabel, Ring, TooMany
from mostwise.ground import Ground, ground_of
from mostwise.kept import Kept
from mostwise.leaning import leaners
from mostwise.lines import rule_of
from mostwise.mostly import Answers
from mostwise.rules import Block, Fact, Most, Sure
from odd import no_texts


def kept_of(*rows):
    return Kept(book_of("\n".join(("things a b",) + rows)))


def told(kept):
    return (kept.book().text(), kept.listed(), kept.looked(), [rule.row() for rule in kept.ground().rules()])


def plainly_answered(book):
    ground = ground_of(book)
    return sorted(oracle.answers(ground.rules(), book.beats()).items())


def differences(before, after):
    """[81], said once more."""
    before, after = dict(before), dict(after)
    every = sorted(set(before) | set(after))
    rows = [(q, before.get(q, "no"), after.get(q, "no")) for q in every]
    return [row for row in rows if row[1] != row[2]]


class MakingTest(unittest.TestCase):
    """[80]"""

    def test_the_answers_of_all_statements_of_the_ground(self):
        for number in range(100):
            book = made.book(number)
            kept = Kept(book)
            self.assertEqual(kept.listed(), Answers(ground_of(book)).listed())
            for q, answer in kept.listed():
                self.assertEqual(kept.answer(q), answer)

    def test_what_stands_nowhere_is_answered_with_no(self):
        kept = kept_of("fact p(a)")
        for q in ("p", "-p", "p(b)", "x", "-x(a,b)"):
            self.assertEqual(kept.answer(q), "no")
        self.assertEqual(kept.listed(), [("-p(a)", "no"), ("p(a)", "surely")])
        self.assertEqual(Kept(Book(["a"])).listed(), [])

    def test_before_any_deed_nothing_was_looked_at(self):
        self.assertEqual(kept_of("fact p", "most a: p -> q").looked(), [])

    def test_what_is_done_to_the_book_is_not_done_to_the_kept_one(self):
        book = book_of("things a b\nfact p\nmost a: p -> q\nmost b: p -> -q\nbeats a b")
        for deed in (lambda: book.put(Fact("s")), lambda: book.unbeat("a", "b"), lambda: book.beat("b", "a"),
                     lambda: book.take("a"), lambda: book.forget("p")):
            kept = Kept(book)
            before = told(kept)
            deed()
            self.assertEqual(told(kept), before)

    def test_what_is_done_to_the_kept_one_is_not_done_to_the_book(self):
        book = book_of("things a b\nfact p\nmost a: p -> q\nmost b: p -> -q\nbeats a b")
        before = book.text()
        kept = Kept(book)
        kept.put(Fact("s"))
        kept.unbeat("a", "b")
        kept.beat("b", "a")
        kept.take("a")
        kept.forget("p")
        self.assertEqual(book.text(), before)

    def test_the_book_that_is_told_is_a_copy(self):
        kept = kept_of("fact p", "most a: p -> q")
        before = told(kept)
        copy = kept.book()
        self.assertIs(copy.__class__, Book)
        copy.forget("p")
        copy.take("a")
        self.assertEqual(told(kept), before)
        kept.put(Fact("s"))
        self.assertEqual(copy.text(), "things a b")

    def test_the_ground(self):
        kept = kept_of("fact p", "most a: p(A) -> q")
        first = kept.ground()
        self.assertIs(first.__class__, Ground)
        self.assertEqual([rule.row() for rule in first.rules()], ["fact p", "most a: p(a) -> q", "most a: p(b) -> q"])
        kept.forget("p")
        self.assertEqual([rule.row() for rule in kept.ground().rules()], ["most a: p(a) -> q", "most a: p(b) -> q"])
        self.assertEqual(len(first.rules()), 3)


class DeedsTest(unittest.TestCase):
    """[81] to [84], a deed of each kind"""

    def same_as_made_at_once(self, kept):
        again = Kept(kept.book())
        self.assertEqual(kept.listed(), again.listed())
        self.assertEqual([rule.row() for rule in kept.ground().rules()], [rule.row() for rule in again.ground().rules()])
        self.assertEqual(kept.listed(), plainly_answered(kept.book()))

    def test_a_fact_is_put_in(self):
        kept = kept_of("most a: p -> q", "most b: s -> t")
        self.assertEqual(kept.put(Fact("p")), [("p", "no", "surely"), ("q", "no", "mostly")])
        self.assertEqual(kept.looked(), ["-p", "-q", "p", "q"])
        self.same_as_made_at_once(kept)

    def test_a_rule_is_put_in(self):
        kept = kept_of("fact p(a)", "fact z")
        self.assertEqual(kept.put(rule_of("most r: p(A) -> q(A)")), [("q(a)", "no", "mostly")])
        self.assertEqual(kept.looked(), ["-q(a)", "-q(b)", "q(a)", "q(b)"])
        self.assertEqual(kept.answer("p(b)"), "no")
        self.assertEqual([q for q, _ in kept.listed()],
                         ["-p(a)", "-p(b)", "-q(a)", "-q(b)", "-z", "p(a)", "p(b)", "q(a)", "q(b)", "z"])
        self.same_as_made_at_once(kept)

    def test_a_rule_is_put_in_that_opens_and_a_block(self):
        kept = kept_of("most a: -> p")
        self.assertEqual(kept.put(rule_of("block b: p -> -p")), [("p", "mostly", "open")])
        self.assertEqual(kept.put(rule_of("block c: -> -p")), [("p", "open", "no")])
        self.same_as_made_at_once(kept)

    def test_a_fact_is_forgotten(self):
        kept = kept_of("fact p", "most a: p -> q", "fact z")
        self.assertEqual(kept.forget("p"), [("p", "surely", "no"), ("q", "mostly", "no")])
        self.assertEqual(kept.looked(), ["-p", "-q", "p", "q"])
        self.same_as_made_at_once(kept)

    def test_a_statement_that_stands_nowhere_behind_the_deed(self):
        kept = kept_of("fact p")
        self.assertEqual(kept.forget("p"), [("p", "surely", "no")])
        self.assertEqual((kept.looked(), kept.listed(), kept.answer("p")), (["-p", "p"], [], "no"))
        self.assertEqual(kept.put(Fact("p")), [("p", "no", "surely")])
        self.assertEqual((kept.looked(), kept.listed()), (["-p", "p"], [("-p", "no"), ("p", "surely")]))

    def test_a_rule_is_taken_out(self):
        kept = kept_of("fact p", "most a: p -> q", "most b: p -> -q", "beats a b", "most c: q -> s", "fact z")
        self.assertEqual(kept.take("a"), [("-q", "no", "mostly"), ("q", "mostly", "no"), ("s", "mostly", "no")])
        self.assertEqual(kept.looked(), ["-q", "-s", "q", "s"])
        self.assertEqual(kept.book().beats(), [])
        self.same_as_made_at_once(kept)

    def test_premises_that_come_and_go_with_a_rule(self):
        kept = kept_of("fact p")
        self.assertEqual(kept.put(rule_of("most a: x, -y -> q")), [])
        self.assertEqual(kept.looked(), ["-q", "q"])
        self.assertEqual([q for q, _ in kept.listed()], ["-p", "-q", "-x", "-y", "p", "q", "x", "y"])
        self.assertEqual(kept.take("a"), [])
        self.assertEqual(kept.listed(), [("-p", "no"), ("p", "surely")])
        self.same_as_made_at_once(kept)

    def test_pairs_are_told_and_taken_back(self):
        kept = kept_of("most a: -> p", "most b: -> -p", "most c: p -> q", "fact z")
        self.assertEqual(kept.beat("a", "b"), [("p", "no", "mostly"), ("q", "no", "mostly")])
        self.assertEqual(kept.looked(), ["-p", "-q", "p", "q"])
        self.same_as_made_at_once(kept)
        self.assertEqual(kept.unbeat("a", "b"), [("p", "mostly", "no"), ("q", "mostly", "no")])
        self.assertEqual(kept.looked(), ["-p", "-q", "p", "q"])
        self.assertEqual(kept.beat("b", "a"), [("-p", "no", "mostly")])
        self.same_as_made_at_once(kept)

    def test_a_pair_looks_at_the_heads_of_both_labels(self):
        kept = kept_of("most a: -> p", "most b: -> q", "most c: q -> s", "fact z")
        self.assertEqual(kept.beat("a", "b"), [])
        self.assertEqual(kept.looked(), ["-p", "-q", "-s", "p", "q", "s"])
        kept = kept_of("most a: -> p(A)", "block b: -> q(a)")
        kept.beat("b", "a")
        self.assertEqual(kept.looked(), ["-p(a)", "-p(b)", "-q(a)", "p(a)", "p(b)", "q(a)"])

    def test_pairs_that_go_with_a_rule_add_no_heads(self):
        kept = kept_of("most a: -> p", "most b: -> q", "beats a b")
        kept.take("a")
        self.assertEqual(kept.looked(), ["-p", "p"])

    def test_a_fact_that_was_sure_already(self):
        kept = kept_of("sure a: -> p")
        self.assertEqual(kept.put(Fact("p")), [])
        self.assertEqual(kept.take("a"), [])
        self.assertEqual(kept.forget("p"), [("p", "surely", "no")])

    def test_sure_rules_over_what_was_not_looked_at(self):
        kept = kept_of("fact p", "sure a: p, s -> q", "most b: -> -q")
        self.assertEqual(kept.put(Fact("s")), [("-q", "mostly", "no"), ("q", "no", "surely"), ("s", "no", "surely")])
        self.assertEqual(kept.forget("s"), [("-q", "no", "mostly"), ("q", "surely", "no"), ("s", "surely", "no")])

    def test_rings_open_and_close(self):
        kept = kept_of("most a: q -> p")
        self.assertEqual(kept.put(rule_of("most b: p -> q")), [("p", "no", "open"), ("q", "no", "open")])
        self.assertEqual(kept.put(Fact("q")), [("p", "open", "mostly"), ("q", "open", "surely")])
        self.assertEqual(kept.take("b"), [])
        self.assertEqual(kept.forget("q"), [("p", "mostly", "no"), ("q", "surely", "no")])

    def test_the_changes_are_tuples_of_three_texts(self):
        changes = kept_of("most a: p -> q").put(Fact("p"))
        self.assertIs(changes.__class__, list)
        self.assertEqual([change.__class__ for change in changes], [tuple] * 2)


class RefusalsTest(unittest.TestCase):
    """[81] and [4]"""

    def refused(self, kept, kind, deed, *values):
        before = told(kept)
        with self.assertRaises(MostError) as caught:
            deed(*values)
        self.assertIs(caught.exception.__class__, kind)
        self.assertEqual(told(kept), before)
        return caught.exception

    def test_as_of_a_book_and_nothing_is_changed(self):
        kept = kept_of("fact p", "most a: -> p", "most b: -> -p", "beats a b")
        kept.put(Fact("q"))
        self.assertEqual(kept.looked(), ["-q", "q"])
        self.assertEqual(self.refused(kept, Doubled, kept.put, Fact("p")).found, "p")
        self.assertEqual(self.refused(kept, Doubled, kept.put, Sure("a", "p", [])).found, "a")
        self.assertEqual(self.refused(kept, NoLabel, kept.take, "x").found, "x")
        self.assertEqual(self.refused(kept, NoFact, kept.forget, "x").found, "x")
        self.assertEqual(self.refused(kept, NoLabel, kept.beat, "x", "a").found, "x")
        self.assertEqual(self.refused(kept, Doubled, kept.beat, "a", "b").found, ("a", "b"))
        self.assertEqual(self.refused(kept, Ring, kept.beat, "b", "a").chain, ["b", "a"])
        self.assertEqual(self.refused(kept, NoBeat, kept.unbeat, "b", "a").found, ("b", "a"))

    def test_too_many(self):
        kept = Kept(Book(list("abcdefgh")))
        self.assertEqual(self.refused(kept, TooMany, kept.put, rule_of("most a: p(A,B) -> q(C)")).count, 512)
        kept.put(rule_of("most a: p(A,B) -> q"))
        self.assertEqual(self.refused(kept, TooMany, kept.put, rule_of("most b: p(A,B) -> q")).count, 128)

    def test_things_of_every_other_kind(self):
        kept = kept_of("fact p", "most a: -> p", "most b: -> -p", "beats a b")
        for thing in no_texts():
            self.assertIs(self.refused(kept, NoLabel, kept.take, thing).found, thing)
            self.assertIs(self.refused(kept, NoFact, kept.forget, thing).found, thing)
            self.assertIs(self.refused(kept, NoLabel, kept.beat, thing, "a").found, thing)
            self.assertIs(self.refused(kept, NoBeat, kept.unbeat, "a", thing).found[1], thing)


def any_deed(source, kept):
    """Does something to a kept book; tells what came of it and the heads it had to do with, or None if refused."""
    book = kept.book()
    names = ["p", "q", "s", "t"]
    places = ("", "(a)", "(b)")
    labels = [rule.label for rule in book.rules()] + ["r0", "x"]
    choice = source.randrange(6)
    try:
        if choice == 0:
            fact = made.statement(source, names, places)
            return kept.put(Fact(fact)), [fact]
        if choice == 1:
            sort = source.choice([Sure, Most, Most, Block])
            body = [made.statement(source, names, places + ("(A)",)) for _ in range(source.choice([0, 1, 1, 2]))]
            rule = sort("r" + str(source.randrange(12)), made.statement(source, names, places + ("(A)", "(B)")), body)
            return kept.put(rule), heads(kept.ground(), [rule.label])
        if choice == 2:
            label = source.choice(labels)
            gone = heads(kept.ground(), [label])
            return kept.take(label), gone
        if choice == 3:
            fact = source.choice(book.facts() + ["x"])
            return kept.forget(fact), [fact]
        if choice == 4:
            one, other = source.choice(labels), source.choice(labels)
            return kept.beat(one, other), heads(kept.ground(), [one, other])
        one, other = source.choice(book.beats() + [("x", "y")])
        return kept.unbeat(one, other), heads(kept.ground(), [one, other])
    except MostError:
        return None


def heads(ground, labels):
    return [rule.head for rule in ground.rules() if rule.label in labels]


class AnyDeedsTest(unittest.TestCase):
    """[81] to [84] and [5], over rows of deeds"""

    def test_behind_any_row_of_deeds(self):
        done = refused = 0
        for number in range(60):
            source = random.Random(number)
            kept = Kept(made.book(number))
            for _ in range(25):
                before, looked = told(kept), kept.looked()
                ahead = kept.ground()
                outcome = any_deed(source, kept)
                if outcome is None:
                    refused += 1
                    self.assertEqual(told(kept), before)
                    self.assertEqual(kept.looked(), looked)
                    continue
                done += 1
                changes, touched = outcome
                self.assertEqual(kept.listed(), plainly_answered(kept.book()))
                self.assertEqual(kept.listed(), Kept(kept.book()).listed())
                self.assertEqual(changes, differences(before[1], kept.listed()))
                self.assertEqual(kept.looked(), leaners(kept.ground(), touched))
                self.assertEqual(kept.looked(), leaners(ahead, touched))
                self.assertLessEqual({q for q, _, _ in changes}, set(kept.looked()))
        self.assertGreater(min(done, refused), 200)

    def test_the_way_by_which_a_book_came_about_changes_nothing(self):
        for number in range(60):
            book = made.book(number)
            kept = Kept(Book(book.things()))
            source = random.Random(number)
            rules = [Fact(fact) for fact in book.facts()] + book.rules()
            source.shuffle(rules)
            for rule in rules:
                kept.put(rule)
            for one, other in book.beats():
                kept.beat(one, other)
            self.assertEqual(kept.listed(), Kept(book).listed())


class OwnTest(unittest.TestCase):
    """[2]"""

    def test_lists_that_are_told_are_the_askers_own(self):
        kept = kept_of("most a: p -> q")
        changes = kept.put(Fact("p"))
        rows = ["fact p", "most a: p -> q"]
        changes.clear()
        kept.listed().clear()
        kept.looked().append("x")
        kept.looked().reverse()
        kept.listed().append(("x", "surely"))
        kept.ground().rules().clear()
        self.assertEqual(told(kept), ("\n".join(["things a b"] + rows), [
            ("-p", "no"), ("-q", "no"), ("p", "surely"), ("q", "mostly")], ["-p", "-q", "p", "q"], rows))
        self.assertEqual(kept.answer("x"), "no")
        fresh = kept_of("fact p")
        fresh.looked().append("x")
        self.assertEqual(fresh.looked(), [])

    def test_two_kept_books_share_nothing(self):
        book = book_of("things a\nfact p")
        one, other = Kept(book), Kept(book)
        one.forget("p")
        self.assertEqual((one.answer("p"), other.answer("p")), ("no", "surely"))
        self.assertEqual(other.looked(), [])

    def test_what_was_told_ahead_of_a_deed_stays(self):
        kept = kept_of("fact p")
        listed, looked = kept.listed(), kept.looked()
        kept.put(Fact("q"))
        self.assertEqual((listed, looked), ([("-p", "no"), ("p", "surely")], []))


if __name__ == "__main__":
    unittest.main()
