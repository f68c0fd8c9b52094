"""[1] to [5], over the whole program."""

import random
import unittest

import made
import oracle
from mostwise.books import Book, book_of
from mostwise.ground import ground_of
from mostwise.kept import Kept
from mostwise.mostly import Answers
from mostwise.opens import keeps_open, open_of
from mostwise.papers import lets_by, paper_of
from mostwise.rules import Fact
from mostwise.turning import asked, turned
from mostwise.words import opposite


def in_another_order(source, book):
    """The same things, facts, rules and pairs, put in otherwise."""
    things = book.things()
    source.shuffle(things)
    told = Book(things)
    rules = [Fact(fact) for fact in book.facts()] + book.rules()
    source.shuffle(rules)
    for rule in rules:
        told.put(rule)
    pairs = book.beats()
    source.shuffle(pairs)
    for one, other in pairs:
        told.beat(one, other)
    return told


class WholeTest(unittest.TestCase):
    def test_each_statement_has_just_one_answer_in_whatever_order_the_rows_stand(self):
        source = random.Random(5)
        for number in range(120):
            book = made.book(number)
            here = ground_of(book)
            listed = Answers(here).listed()
            for _ in range(2):
                self.assertEqual(Answers(ground_of(in_another_order(source, book))).listed(), listed)
            self.assertEqual(dict(listed), oracle.answers(here.rules(), book.beats()))
            self.assertLessEqual({answer for _, answer in listed}, {"surely", "mostly", "no", "open"})

    def test_papers_and_sets_of_one_order_are_so_in_the_other(self):
        source = random.Random(6)
        for number in range(60):
            book = made.book(number)
            here, there = ground_of(book), ground_of(in_another_order(source, book))
            for q in here.statements() + ["x"]:
                if asked(here, q) == "open":
                    self.assertIs(keeps_open(there, open_of(here, q)), True)
                    self.assertIs(keeps_open(here, open_of(there, q)), True)
                else:
                    self.assertIs(lets_by(there, paper_of(here, q)), True)
                    self.assertIs(lets_by(here, paper_of(there, q)), True)

    def test_none_is_both_held_and_refused_and_both_sides_only_where_both_are_sure(self):
        for number in range(200):
            here = ground_of(made.book(number))
            answers = Answers(here)
            for q in here.statements():
                self.assertFalse(answers.held(q) and answers.refused(q))
                if answers.held(q) and answers.held(opposite(q)):
                    self.assertTrue(answers.sure(q) and answers.sure(opposite(q)))

    def test_all_ways_to_ask_tell_the_same(self):
        for number in range(80):
            book = made.book(number)
            here, kept = ground_of(book), Kept(book)
            for q, answer in Answers(here).listed():
                self.assertEqual((asked(here, q), kept.answer(q)), (answer, answer))

    def test_what_turns_an_answer_turns_the_kept_one(self):
        for number in range(80):
            book = made.book(number, facts=6)
            for q in ground_of(book).statements():
                kept = Kept(book)
                gone = turned(book, q)
                for fact in gone or ():
                    kept.forget(fact)
                self.assertEqual(kept.answer(q) != Kept(book).answer(q), gone is not None)

    def test_the_same_question_has_the_same_answer(self):
        for number in range(40):
            book = made.book(number)
            here = ground_of(book)
            for q in here.statements():
                if asked(here, q) == "open":
                    self.assertEqual(open_of(here, q), open_of(ground_of(book_of(book.text())), q))
                else:
                    self.assertEqual(paper_of(here, q), paper_of(ground_of(book_of(book.text())), q))
                self.assertEqual(turned(book, q), turned(book.copied(), q))

    def test_a_great_book_is_answered(self):
        book = Book(list("abcdefgh"))
        for row in ("sure s: likes(A,B) -> knows(A,B)", ):
            book.put(book_of("things a\n" + row).rules()[0])
        for one, other in zip("abcdefg", "bcdefgh"):
            book.put(Fact("likes(" + one + "," + other + ")"))
        for row in ("most m: knows(a,A) -> meets(A)", "block n: sad(A) -> -meets(A)", "most o: meets(A) -> glad(A)"):
            book.put(book_of("things a\n" + row).rules()[0])
        kept = Kept(book)
        self.assertEqual((kept.answer("meets(b)"), kept.answer("glad(b)"), kept.answer("meets(c)")), ("mostly", "mostly", "no"))
        self.assertEqual(kept.put(Fact("sad(b)")), [("glad(b)", "mostly", "no"), ("meets(b)", "mostly", "no"),
                                                    ("sad(b)", "no", "surely")])


if __name__ == "__main__":
    unittest.main()
