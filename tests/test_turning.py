"""[73] to [75], what [2] and [5] say of them, and the interface of mostwise/turning.py."""

import itertools
import unittest

import made
from made import read_ground as ground
from mostwise.books import book_of
from mostwise.errors import TooMany
from mostwise.ground import ground_of
from mostwise.leaning import leans_on
from mostwise.mostly import Answers
from mostwise.turning import asked, turned


def book(*rows):
    return book_of("\n".join(("things a b",) + rows))


def answer(a_book, statement):
    return Answers(ground_of(a_book)).answer(statement)


def plainly_turned(a_book, statement):
    """[74], said once more."""
    leaned = leans_on(ground_of(a_book), statement)
    facts = [fact for fact in a_book.facts() if fact in leaned]
    for size in (1, 2, 3):
        for gone in itertools.combinations(facts, size):
            less = a_book.copied()
            for fact in gone:
                less.forget(fact)
            if answer(less, statement) != answer(a_book, statement):
                return gone
    return None


class AskedTest(unittest.TestCase):
    """[73]"""

    def test_each_answer(self):
        here = ground("fact p", "most a: p -> q", "most b: s -> s", "fact z", "most c: z -> -z")
        for q, told in (("p", "surely"), ("q", "mostly"), ("-p", "no"), ("s", "open"), ("-z", "no"), ("x", "no")):
            self.assertEqual(asked(here, q), told)

    def test_it_is_the_answer_of_the_whole_ground(self):
        for number in range(300):
            here = made.ground(number, rings=number % 2 == 0)
            answers = Answers(here)
            for q in here.statements() + ["x", "-x"]:
                self.assertEqual(asked(here, q), answers.answer(q))

    def test_written_out_books(self):
        for number in range(100):
            here = ground_of(made.book(number))
            self.assertEqual([(q, asked(here, q)) for q in here.statements()], Answers(here).listed())


class TurnedTest(unittest.TestCase):
    """[74] and [75]"""

    def test_one_fact(self):
        self.assertEqual(turned(book("fact p", "most a: p -> q"), "q"), ("p",))
        self.assertEqual(turned(book("fact p"), "p"), ("p",))
        self.assertEqual(turned(book("fact p"), "-p"), None)

    def test_two_facts_and_three(self):
        two = ["fact p", "fact s", "most a: p -> q", "most b: s -> q"]
        self.assertEqual(turned(book(*two), "q"), ("p", "s"))
        self.assertEqual(turned(book("fact t", *two, "most c: t -> q"), "q"), ("t", "p", "s"))

    def test_four_would_be_needed(self):
        rows = ["fact " + name for name in "pstu"] + ["most " + name + ": " + name + " -> q" for name in "pstu"]
        self.assertIsNone(turned(book(*rows), "q"))
        three = rows[1:4] + rows[5:]
        self.assertEqual(turned(book(*three), "q"), ("s", "t", "u"))

    def test_none_turns(self):
        self.assertIsNone(turned(book(), "q"))
        self.assertIsNone(turned(book("most a: -> q"), "q"))
        self.assertIsNone(turned(book("fact p", "most a: p -> q", "most b: -> q"), "q"))
        self.assertIsNone(turned(book("fact p"), "x"))

    def test_a_fact_whose_going_makes_something_hold(self):
        rows = ["most a: -> q", "fact sick", "block b: sick -> -q"]
        self.assertEqual(turned(book(*rows), "q"), ("sick",))

    def test_from_surely_to_mostly_is_another_answer(self):
        self.assertEqual(turned(book("fact q", "most a: -> q"), "q"), ("q",))

    def test_to_open_and_from_open(self):
        self.assertEqual(turned(book("fact q", "most a: q -> q"), "q"), ("q",))
        self.assertEqual(turned(book("fact s", "most a: q, s -> q"), "q"), ("s",))

    def test_of_like_size_by_the_places_of_the_facts(self):
        self.assertEqual(turned(book("fact z", "fact a", "most r: z, a -> q"), "q"), ("z",))
        self.assertEqual(turned(book("fact a", "fact z", "most r: z, a -> q"), "q"), ("a",))
        rows = ["most r1: z, m -> q", "most r2: a, y -> q"]
        self.assertEqual(turned(book("fact z", "fact m", "fact a", "fact y", *rows), "q"), ("z", "a"))
        self.assertEqual(turned(book("fact y", "fact z", "fact m", "fact a", *rows), "q"), ("y", "z"))
        self.assertEqual(turned(book("fact m", "fact z", "fact y", "fact a", *rows), "q"), ("m", "y"))

    def test_the_facts_are_told_in_their_order(self):
        self.assertEqual(turned(book("fact z", "fact a", "most r1: z -> q", "most r2: a -> q"), "q"), ("z", "a"))

    def test_facts_on_which_it_does_not_lean_are_not_looked_at(self):
        others = ["fact x" + sign for sign in "abcdefghijklmnop"]
        self.assertEqual(turned(book(*others, "fact p", "most a: p -> q"), "q"), ("p",))
        self.assertEqual(turned(book("fact x", "fact p", "fact -p", "most a: p -> q"), "q"), ("p",))

    def test_twelve_facts_and_thirteen(self):
        names = ["x" + sign for sign in "abcdefghijklm"]
        facts = ["fact " + name for name in names]
        rules = ["most r" + name + ": " + name + " -> q" for name in names]
        self.assertIsNone(turned(book(*facts[:12], *rules), "q"))
        with self.assertRaises(TooMany) as caught:
            turned(book(*facts, *rules), "q")
        self.assertEqual(caught.exception.count, 13)
        with self.assertRaises(TooMany) as caught:
            turned(book(*facts, "fact q", "fact -q", *rules), "q")
        self.assertEqual(caught.exception.count, 15)
        self.assertIsNone(turned(book(*facts[:12], *rules[:12]), "x"))
        last = book(*facts[:12], *rules[:9], "most z: xj, xk, xl -> -q", "fact y")
        self.assertEqual(turned(last, "q"), ("xj",))

    def test_the_last_set_of_three_among_twelve(self):
        names = ["x" + sign for sign in "abcdefghijkl"]
        rows = ["fact " + name for name in names]
        rows += ["block b" + str(at) + ": " + name + " -> -z" for at, name in enumerate(names[:9])]
        rows += ["sure r1: xj -> q", "sure r2: xk -> q", "sure r3: xl -> q", "block w: z -> q"]
        self.assertEqual(turned(book(*rows), "q"), ("xj", "xk", "xl"))

    def test_against_the_plain_way(self):
        found = {0: 0, 1: 0, 2: 0, 3: 0}
        for number in range(250):
            here = made.book(number, facts=7, many=9)
            for q in ground_of(here).statements() + ["x"]:
                told = turned(here, q)
                self.assertEqual(told, plainly_turned(here, q))
                found[len(told or ())] += 1
        self.assertGreater(min(found[0], found[1], found[2]), 5)

    def test_a_rule_without_premises_is_no_fact(self):
        self.assertIsNone(turned(book("sure a: -> p", "most b: p -> q"), "q"))
        self.assertIsNone(turned(book("fact p", "sure a: -> p", "most b: p -> q"), "q"))

    def test_the_book_stays_as_it_is(self):
        here = book("fact p", "fact s", "most a: p -> q", "most b: s -> q", "beats a b")
        before = here.text()
        self.assertIs(turned(here, "q").__class__, tuple)
        self.assertEqual(here.text(), before)
        self.assertEqual(turned(here, "q"), ("p", "s"))


if __name__ == "__main__":
    unittest.main()
