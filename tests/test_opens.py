"""[63] to [65], what [2] and [5] say of them, and the interface of mostwise/opens.py."""

import random
import unittest

import made
import oracle
from made import read_ground as ground
from mostwise.errors import Decided
from mostwise.ground import Ground
from mostwise.leaning import leans_on
from mostwise.mostly import Answers
from mostwise.opens import keeps_open, open_of
from mostwise.papers import lets_by, paper_of
from mostwise.sure import sure_steps


class KeepsOpenTest(unittest.TestCase):
    """[63]"""

    def test_a_ring_keeps_open(self):
        here = ground("most a: q -> p", "most b: p -> q")
        self.assertIs(keeps_open(here, ([], [], ["p", "q"])), True)
        self.assertIs(keeps_open(here, ([], [], ["p"])), False)
        self.assertIs(keeps_open(here, ([], [], ["q"])), False)
        self.assertIs(keeps_open(ground("most a: p -> p"), ([], [], ["p"])), True)

    def test_the_empty_list_keeps_open_with_each_paper_that_is_let_by(self):
        here = ground("fact p", "most a: p -> q")
        self.assertIs(keeps_open(here, (["p"], [], [])), True)
        self.assertIs(keeps_open(here, (["p"], [("held", "p"), ("held", "q")], [])), True)
        self.assertIs(keeps_open(ground(), ([], [], [])), True)
        self.assertIs(keeps_open(here, ([], [], [])), False)
        self.assertIs(keeps_open(here, (["p"], [("held", "q")], [])), False)

    def test_the_paper_must_be_let_by(self):
        here = ground("most a: q -> p", "most b: p -> q", "fact s", "most c: s -> t")
        some = ["p", "q"]
        self.assertIs(keeps_open(here, (["s"], [], some)), True)
        self.assertIs(keeps_open(here, (["s"], [("held", "s"), ("held", "t")], some)), True)
        for sures, rows in (([], []), (["s", "s"], []), (["s", "t"], []), (["s"], [("held", "t")]),
                            (["s"], [("refused", "t")]), (["s"], [("held", "p")])):
            self.assertIs(keeps_open(here, (sures, rows, some)), False)

    def test_the_list_must_rise_each_once(self):
        here = ground("most a: q -> p", "most b: p -> q", "most c: s -> -s")
        for some in (["q", "p"], ["p", "p", "q"], ["p", "q", "q"], ["p", "q", "p"], ["p", "-s", "q"]):
            self.assertIs(keeps_open(here, ([], [], some)), False, some)
        two = ground("most a: -q -> -q", "most b: p -> p", "most c: p(a) -> p(a)")
        self.assertIs(keeps_open(two, ([], [], ["-q", "p", "p(a)"])), True)
        self.assertIs(keeps_open(two, ([], [], ["-q", "p(a)", "p"])), False)
        self.assertIs(keeps_open(two, ([], [], ["p", "-q", "p(a)"])), False)

    def test_none_is_sure_nor_its_opposite(self):
        here = ground("fact p", "most a: q -> p", "most b: p, -p -> q", "most c: -p -> -p", "beats a c")
        self.assertIs(keeps_open(here, (["p"], [], ["p"])), False)
        self.assertIs(keeps_open(here, (["p"], [], ["-p"])), False)
        self.assertIs(keeps_open(here, (["p"], [], ["-p", "p", "q"])), False)

    def test_the_second_condition_by_itself(self):
        # The rule for p could stand, and nothing else of the four is so.
        here = ground("most a: q -> p", "most z: q -> q")
        self.assertIs(keeps_open(here, ([], [], ["p", "q"])), True)
        beside = ground("most a: -> p", "block b: p -> -p")
        self.assertIs(keeps_open(beside, ([], [], ["p"])), True)
        self.assertIs(keeps_open(ground("most a: -> p"), ([], [], ["p"])), False)
        fallen = ground("most a: -> p", "block b: p, s -> -p")
        self.assertIs(keeps_open(fallen, ([], [], ["p"])), False)
        beaten = ground("most a: -> p", "block b: p -> -p", "beats a b")
        self.assertIs(keeps_open(beaten, ([], [], ["p"])), False)

    def test_a_row_tells_that_a_premise_can_not_be_held_or_refused(self):
        here = ground("most a: -> p", "block b: p, s -> -p", "most c: -> s")
        self.assertIs(keeps_open(here, ([], [], ["p"])), False)
        self.assertIs(keeps_open(here, ([], [("held", "s")], ["p"])), True)
        there = ground("most a: s -> p", "most b: p -> p")
        self.assertIs(keeps_open(there, ([], [], ["p"])), False)
        self.assertIs(keeps_open(there, ([], [("refused", "s")], ["p"])), True)

    def test_the_third_condition_by_itself(self):
        self.assertIs(keeps_open(ground("block a: -> p"), ([], [], ["p"])), False)
        self.assertIs(keeps_open(ground(), ([], [], ["x"])), False)
        here = ground("most a: q, p -> p", "most b: -> q")
        self.assertIs(keeps_open(here, ([], [], ["p"])), False)
        self.assertIs(keeps_open(here, ([], [("held", "q")], ["p"])), True)

    def test_the_fourth_condition_by_itself(self):
        here = ground("most a: p -> p", "block b: -> -p")
        self.assertIs(keeps_open(here, ([], [], ["p"])), False)
        beaten = ground("most a: p -> p", "block b: -> -p", "beats a b")
        self.assertIs(keeps_open(beaten, ([], [], ["p"])), True)
        turned = ground("most a: p -> p", "block b: -> -p", "beats b a")
        self.assertIs(keeps_open(turned, ([], [], ["p"])), False)
        fallen = ground("most a: p -> p", "most c: p, x -> p", "block b: -> -p", "beats c b")
        self.assertIs(keeps_open(fallen, ([], [], ["p"])), False)
        unsure = ground("most a: p -> p", "block b: s -> -p")
        self.assertIs(keeps_open(unsure, ([], [], ["p"])), False)
        self.assertIs(keeps_open(unsure, ([], [("refused", "s")], ["p"])), True)

    def test_tuples_that_anybody_may_write(self):
        source = random.Random(63)
        kept = gone = 0
        for number in range(600):
            rules, pairs = made.ground_parts(number, rings=number % 3 == 0)
            here = Ground(rules, pairs)
            answers, so = Answers(here), made.all_so(here)
            still = [q for q in here.statements() if answers.answer(q) == "open"]
            for _ in range(5):
                rows = [row for row in so if source.random() < 0.95]
                sures = sure_steps(here) if source.random() < 0.95 else sure_steps(here)[1:]
                some = [q for q in still if source.random() < 0.9]
                if source.random() < 0.2:
                    some = sorted(some + [source.choice(here.statements())])
                told = keeps_open(here, (sures, rows, some))
                self.assertIs(told, oracle.keeps_open(rules, pairs, (sures, rows, some)))
                if told:
                    self.assertTrue(all(answers.answer(q) == "open" for q in some))
                kept, gone = kept + (told and bool(some)), gone + (not told)
        self.assertGreater(min(kept, gone), 100)

    def test_what_is_handed_in_stays(self):
        here = ground("most a: q -> p", "most b: p -> q", "fact s")
        told = (["s"], [("held", "s")], ["p", "q"])
        keeps_open(here, told)
        self.assertEqual(told, (["s"], [("held", "s")], ["p", "q"]))


class OpenOfTest(unittest.TestCase):
    """[64] and [65]"""

    def test_of_each_open_statement(self):
        seen = 0
        for number in range(400):
            here = made.ground(number, rings=number % 3 == 0)
            answers = Answers(here)
            for q in here.statements():
                if answers.answer(q) != "open":
                    continue
                seen += 1
                told = open_of(here, q)
                self.assertEqual([part.__class__ for part in (told,) + told], [tuple, list, list, list])
                self.assertIs(keeps_open(here, told), True)
                leaned = leans_on(here, q)
                self.assertEqual(told[2], [one for one in leaned if answers.answer(one) == "open"])
                self.assertIn(q, told[2])
                wanted = [("held" if answers.held(one) else "refused", one) for one in leaned if answers.answer(one) != "open"]
                self.assertEqual(sorted(told[1]), sorted(wanted))
        self.assertGreater(seen, 100)

    def test_what_is_not_open_is_refused(self):
        here = ground("most a: q -> p", "most b: p -> q", "fact s", "most c: s -> t")
        for q in ("s", "t", "-s", "-p", "x", "-x"):
            with self.assertRaises(Decided) as caught:
                open_of(here, q)
            self.assertEqual(caught.exception.found, q)
        self.assertEqual(open_of(here, "p"), (["s"], open_of(here, "p")[1], ["p", "q"]))

    def test_each_statement_has_either_a_paper_or_a_set(self):
        for number in range(150):
            here = made.ground(number)
            answers = Answers(here)
            for q in here.statements() + ["x"]:
                if answers.answer(q) == "open":
                    self.assertIs(keeps_open(here, open_of(here, q)), True)
                else:
                    self.assertIs(lets_by(here, paper_of(here, q)), True)
                    self.assertRaises(Decided, open_of, here, q)

    def test_lists_that_are_told_are_the_askers_own(self):
        here = ground("most a: q -> p", "most b: p -> q", "block c: s -> -p", "fact s", "beats a c")
        again = open_of(here, "p")
        for part in open_of(here, "p"):
            part.append("x")
            part.reverse()
        self.assertEqual(open_of(here, "p"), again)


if __name__ == "__main__":
    unittest.main()
