"""[38], what [2] says of it, and the interface of mostwise/leaning.py."""

import unittest

import made
import oracle
from made import read_ground as ground
from mostwise.ground import Ground
from mostwise.leaning import leaners, leans_on


class LeansOnTest(unittest.TestCase):
    def test_a_statement_that_stands_nowhere_leans_on_itself_and_its_opposite(self):
        self.assertEqual(leans_on(ground(), "p"), ["-p", "p"])
        self.assertEqual(leans_on(ground("fact q"), "-p(a)"), ["-p(a)", "p(a)"])

    def test_premises_of_rules_of_every_sort(self):
        for word in ("sure", "most", "block"):
            told = leans_on(ground(word + " r: q, -s -> p"), "p")
            self.assertEqual(told, ["-p", "-q", "-s", "p", "q", "s"])

    def test_rules_against_count(self):
        self.assertEqual(leans_on(ground("block r: q -> -p"), "p"), ["-p", "-q", "p", "q"])
        self.assertEqual(leans_on(ground("most r: q -> p"), "-p"), ["-p", "-q", "p", "q"])

    def test_over_several_steps_and_through_opposites(self):
        here = ground("most a: q -> p", "most b: s -> -q", "most c: t -> -s", "most d: u -> v")
        self.assertEqual(leans_on(here, "p"), ["-p", "-q", "-s", "-t", "p", "q", "s", "t"])
        self.assertEqual(leans_on(here, "s"), ["-s", "-t", "s", "t"])
        self.assertEqual(leans_on(here, "v"), ["-u", "-v", "u", "v"])

    def test_not_the_other_way(self):
        self.assertEqual(leans_on(ground("most a: q -> p"), "q"), ["-q", "q"])

    def test_rings(self):
        here = ground("most a: q -> p", "most b: p -> q", "most c: s -> s")
        self.assertEqual(leans_on(here, "p"), ["-p", "-q", "p", "q"])
        self.assertEqual(leans_on(here, "-s"), ["-s", "s"])

    def test_facts_have_no_premises(self):
        self.assertEqual(leans_on(ground("fact p", "fact q"), "p"), ["-p", "p"])

    def test_against_the_plain_way(self):
        for number in range(200):
            rules, pairs = made.ground_parts(number)
            here = Ground(rules, pairs)
            for q in oracle.statements_in(rules) + ["x"]:
                self.assertEqual(leans_on(here, q), oracle.leaned_on(rules, q))


class LeanersTest(unittest.TestCase):
    def test_nothing_leans_on_no_statements(self):
        self.assertEqual(leaners(ground(), []), [])
        self.assertEqual(leaners(ground("most a: q -> p", "fact q"), []), [])

    def test_heads_of_rules_of_every_sort(self):
        for word in ("sure", "most", "block"):
            self.assertEqual(leaners(ground(word + " r: q, -s -> p"), ["q"]), ["-p", "-q", "p", "q"])
            self.assertEqual(leaners(ground(word + " r: q, -s -> p"), ["s"]), ["-p", "-s", "p", "s"])
            self.assertEqual(leaners(ground(word + " r: q, -s -> p"), ["p"]), ["-p", "p"])

    def test_over_several_steps_and_through_opposites(self):
        here = ground("most a: q -> p", "most b: s -> -q", "most c: t -> -s", "most d: u -> v")
        self.assertEqual(leaners(here, ["-t"]), ["-p", "-q", "-s", "-t", "p", "q", "s", "t"])
        self.assertEqual(leaners(here, ["q"]), ["-p", "-q", "p", "q"])
        self.assertEqual(leaners(here, ["u", "-q"]), ["-p", "-q", "-u", "-v", "p", "q", "u", "v"])

    def test_statements_that_stand_nowhere_or_twice(self):
        self.assertEqual(leaners(ground("most a: q -> p"), ["x", "x", "-x"]), ["-x", "x"])

    def test_against_the_plain_way(self):
        for number in range(200):
            rules, pairs = made.ground_parts(number)
            here = Ground(rules, pairs)
            all_of_them = oracle.statements_in(rules)
            for q in all_of_them:
                self.assertEqual(leaners(here, [q]), oracle.leaning(rules, [q]))
            some = all_of_them[::3]
            self.assertEqual(leaners(here, some), oracle.leaning(rules, some))

    def test_one_leans_on_another_just_where_the_other_has_it_as_a_leaner(self):
        for number in range(60):
            here = made.ground(number)
            for q in here.statements():
                for other in here.statements():
                    self.assertEqual(other in leans_on(here, q), q in leaners(here, [other]))


class OwnTest(unittest.TestCase):
    """[2]"""

    def test_what_is_told_is_new_and_what_is_handed_in_stays(self):
        here = ground("most a: q -> p", "block b: p -> s")
        some = ["q"]
        for ask in (lambda: leans_on(here, "s"), lambda: leaners(here, some)):
            told = ask()
            self.assertIs(told.__class__, list)
            wanted = list(told)
            told.clear()
            self.assertEqual(ask(), wanted)
        self.assertEqual(some, ["q"])
        told = leaners(here, some)
        some.append("x")
        self.assertEqual(told, ["-p", "-q", "-s", "p", "q", "s"])
        self.assertEqual([rule.row() for rule in here.rules()], ["most a: q -> p", "block b: p -> s"])


if __name__ == "__main__":
    unittest.main()
