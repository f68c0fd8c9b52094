"""[60] to [62], what [2] and [5] say of them, and the interface of mostwise/papers.py."""

import itertools
import random
import unittest

import made
import oracle
from made import read_ground as ground
from mostwise.errors import StillOpen
from mostwise.ground import Ground
from mostwise.leaning import leans_on
from mostwise.mostly import Answers
from mostwise.papers import follows, lets_by, paper_of
from mostwise.sure import sure_steps


def held(*statements):
    return [("held", statement) for statement in statements]


def refused(*statements):
    return [("refused", statement) for statement in statements]


def is_so(answers, claim):
    return {"held": answers.held, "refused": answers.refused}[claim[0]](claim[1])


def written_by_anybody(source, here, so):
    """A list of claims: some that are so, some that are not, perhaps out of order."""
    rows = [row for row in so if source.random() < 0.9]
    for _ in range(source.choice([0, 0, 1, 2])):
        claim = (source.choice(["held", "refused"]), source.choice(here.statements() + ["x"]))
        rows.insert(source.randint(0, len(rows)), claim)
    if source.random() < 0.3:
        source.shuffle(rows)
    return rows


class FollowsTest(unittest.TestCase):
    """[60]"""

    def test_held_by_what_is_handed_in(self):
        here = ground("most a: q, s -> p", "block b: t -> -p")
        self.assertIs(follows(here, [], held("q", "s") + refused("t"), ("held", "p")), True)
        self.assertIs(follows(here, [], held("q", "s"), ("held", "p")), False)
        self.assertIs(follows(here, [], held("q") + refused("t"), ("held", "p")), False)
        self.assertIs(follows(here, [], held("q", "s", "t"), ("held", "p")), False)
        self.assertIs(follows(here, [], refused("q", "s", "t"), ("held", "p")), False)

    def test_refused_by_what_is_handed_in(self):
        here = ground("most a: q, s -> p", "block b: t -> -p")
        self.assertIs(follows(here, [], refused("q"), ("refused", "p")), True)
        self.assertIs(follows(here, [], held("t"), ("refused", "p")), True)
        self.assertIs(follows(here, [], held("q"), ("refused", "p")), False)
        self.assertIs(follows(here, [], [], ("refused", "p")), False)
        self.assertIs(follows(here, ["-p"], [], ("refused", "p")), True)
        self.assertIs(follows(here, ["p"], refused("q"), ("refused", "p")), False)

    def test_a_sure_premise_that_no_claim_names_is_not_held(self):
        here = ground("fact q", "most a: q -> p")
        self.assertIs(follows(here, ["q"], [], ("held", "p")), False)
        self.assertIs(follows(here, ["q"], [], ("held", "q")), True)
        self.assertIs(follows(here, ["q"], held("q"), ("held", "p")), True)
        self.assertIs(follows(here, [], held("q"), ("held", "p")), True)

    def test_claims_in_any_order_and_several_times(self):
        here = ground("most a: q, s -> p", "block b: t -> -p")
        for rows in itertools.permutations(held("q", "s", "s") + refused("t", "t")):
            self.assertIs(follows(here, [], list(rows), ("held", "p")), True)

    def test_the_statements_that_are_taken_as_sure_are_just_those_of_the_list(self):
        here = ground("fact p", "fact q")
        self.assertIs(follows(here, [], [], ("held", "p")), True)
        self.assertIs(follows(here, ["-p"], [], ("held", "p")), False)
        self.assertIs(follows(here, ["x"], [], ("held", "x")), True)
        self.assertIs(follows(here, [], [], ("held", "x")), False)
        self.assertIs(follows(here, [], [], ("refused", "x")), True)

    def test_claims_that_contradict_one_another(self):
        here = ground("most a: q -> p")
        self.assertIs(follows(here, [], held("q") + refused("q"), ("held", "p")), True)
        self.assertIs(follows(here, [], held("q") + refused("q"), ("refused", "p")), True)

    def test_a_claim_does_not_follow_from_itself(self):
        here = ground("most a: q -> p")
        self.assertIs(follows(here, [], held("p"), ("held", "p")), False)
        self.assertIs(follows(here, [], refused("p"), ("refused", "p")), False)

    def test_other_words_follow_from_nothing(self):
        here = ground("fact p")
        for word in ("", "open", "sure", "surely", "mostly", "no", "Held", "held "):
            self.assertIs(follows(here, ["p"], [], (word, "p")), False)
            self.assertIs(follows(here, ["p"], [], (word, "x")), False)

    def test_against_the_plain_way(self):
        source = random.Random(60)
        for number in range(300):
            rules, pairs = made.ground_parts(number, rings=number % 3 == 0)
            here = Ground(rules, pairs)
            for _ in range(3):
                sures = source.choice([sure_steps(here), [q for q in here.statements() if source.random() < 0.2]])
                rows = written_by_anybody(source, here, made.all_so(here))
                for q in here.statements() + ["x"]:
                    for word in ("held", "refused"):
                        self.assertIs(follows(here, sures, rows, (word, q)),
                                      oracle.follows(rules, pairs, sures, rows, (word, q)))


CHAIN = ["fact p", "most a: p -> q", "most b: q -> s", "most c: -q -> t"]


class LetsByTest(unittest.TestCase):
    """[61]"""

    def test_each_row_follows_from_those_ahead(self):
        here = ground(*CHAIN)
        self.assertIs(lets_by(here, (["p"], held("p", "q", "s"))), True)
        self.assertIs(lets_by(here, (["p"], refused("-q", "t") + held("p", "q", "s"))), True)

    def test_a_paper_without_rows(self):
        self.assertIs(lets_by(ground(*CHAIN), (["p"], [])), True)
        self.assertIs(lets_by(ground(), ([], [])), True)
        self.assertIs(lets_by(ground(*CHAIN), ([], [])), False)

    def test_a_row_ahead_of_what_it_follows_from(self):
        here = ground(*CHAIN)
        for rows in itertools.permutations(held("p", "q", "s")):
            self.assertIs(lets_by(here, (["p"], list(rows))), list(rows) == held("p", "q", "s"), rows)

    def test_a_row_lacking(self):
        here = ground(*CHAIN)
        self.assertIs(lets_by(here, (["p"], held("q"))), False)
        self.assertIs(lets_by(here, (["p"], held("p", "s"))), False)
        self.assertIs(lets_by(here, (["p"], held("q", "s"))), False)

    def test_a_row_may_stand_several_times(self):
        self.assertIs(lets_by(ground(*CHAIN), (["p"], held("p", "p", "q", "p", "q", "s", "s"))), True)

    def test_a_row_that_is_not_so(self):
        here = ground(*CHAIN)
        for row in refused("p", "q", "s") + held("t", "-q", "x", "-p"):
            for at in range(4):
                rows = held("p", "q", "s")
                rows.insert(at, row)
                self.assertIs(lets_by(here, (["p"], rows)), False, rows)

    def test_the_list_of_sure_statements(self):
        here = ground("fact p", "sure a: p -> q", "most b: q -> s")
        rows = held("p", "q", "s")
        self.assertIs(lets_by(here, (["p", "q"], rows)), True)
        for sures in ([], ["p"], ["q"], ["q", "p"], ["p", "q", "s"], ["p", "q", "x"], ["p", "q", "q"], ["p", "p", "q"],
                      ["-p", "p", "q"]):
            self.assertIs(lets_by(here, (sures, rows)), False, sures)
            self.assertIs(lets_by(here, (sures, [])), False, sures)

    def test_statements_in_rings_do_not_hold_one_another_up(self):
        here = ground("most a: q -> p", "most b: p -> q")
        for word in ("held", "refused"):
            self.assertIs(lets_by(here, ([], [(word, "p"), (word, "q")])), False)
            self.assertIs(lets_by(here, ([], [(word, "p"), (word, "q"), (word, "p")])), False)

    def test_papers_that_anybody_may_write(self):
        source = random.Random(61)
        passed = failed = 0
        for number in range(400):
            rules, pairs = made.ground_parts(number, rings=number % 3 == 0)
            here = Ground(rules, pairs)
            answers, so = Answers(here), made.all_so(here)
            for _ in range(6):
                sures = sure_steps(here)
                if source.random() < 0.1:
                    source.shuffle(sures)
                if source.random() < 0.1:
                    sures = sures[1:] + source.sample(here.statements(), 1)
                rows = written_by_anybody(source, here, so)
                told = lets_by(here, (sures, rows))
                self.assertIs(told, oracle.let_by(rules, pairs, (sures, rows)))
                passed, failed = passed + told, failed + (not told)
                if told:
                    self.assertTrue(all(is_so(answers, row) for row in rows))
        self.assertGreater(min(passed, failed), 300)

    def test_what_is_handed_in_stays(self):
        here, sures, rows = ground(*CHAIN), ["p"], held("p", "q", "s")
        lets_by(here, (sures, rows))
        follows(here, sures, rows, ("held", "t"))
        self.assertEqual((sures, rows), (["p"], held("p", "q", "s")))


class PaperOfTest(unittest.TestCase):
    """[62]"""

    def test_of_all_that_is_held_or_refused(self):
        for number in range(300):
            here = made.ground(number, rings=number % 3 == 0)
            answers = Answers(here)
            for q in here.statements() + ["x", "-x"]:
                if answers.answer(q) == "open":
                    continue
                paper = paper_of(here, q)
                self.assertEqual([part.__class__ for part in (paper,) + paper], [tuple, list, list])
                self.assertIs(lets_by(here, paper), True)
                self.assertEqual(paper[1][-1], ("held" if answers.held(q) else "refused", q))
                self.assertEqual(len(set(paper[1])), len(paper[1]))
                self.assertLessEqual({statement for _, statement in paper[1]}, set(leans_on(here, q)))
                self.assertTrue(all(is_so(answers, row) for row in paper[1]))

    def test_what_is_open_is_refused(self):
        here = ground("most a: q -> p", "most b: p -> q", "fact s")
        for q in ("p", "q"):
            with self.assertRaises(StillOpen) as caught:
                paper_of(here, q)
            self.assertEqual(caught.exception.found, q)
        for q in ("s", "-s", "-p", "x"):
            self.assertIs(lets_by(here, paper_of(here, q)), True)

    def test_just_the_open_ones_are_refused(self):
        for number in range(200):
            here = made.ground(number)
            answers = Answers(here)
            for q in here.statements():
                try:
                    paper_of(here, q)
                    self.assertNotEqual(answers.answer(q), "open")
                except StillOpen as error:
                    self.assertEqual((error.found, answers.answer(q)), (q, "open"))

    def test_what_stands_nowhere_is_refused_by_itself(self):
        self.assertEqual(paper_of(ground(), "p"), ([], refused("p")))
        self.assertEqual(paper_of(ground("fact q"), "-p"), (["q"], refused("-p")))

    def test_nothing_that_the_statement_does_not_lean_on(self):
        here = ground("fact p", "most a: p -> q", "fact s", "most b: s -> t")
        self.assertEqual({q for _, q in paper_of(here, "q")[1]} & {"s", "t", "-s", "-t"}, set())

    def test_lists_that_are_told_are_the_askers_own(self):
        here = ground(*CHAIN)
        paper = paper_of(here, "s")
        again = paper_of(here, "s")
        paper[0].append("x")
        paper[1].clear()
        self.assertEqual(paper_of(here, "s"), again)
        self.assertIs(lets_by(here, again), True)


if __name__ == "__main__":
    unittest.main()
