"""[40] to [44], what [2] says of them, and the interface of mostwise/sure.py."""

import itertools
import random
import unittest

import made
import oracle
from made import read_ground as ground
from mostwise.ground import Ground
from mostwise.lines import rule_of
from mostwise.sure import is_sure_set, sure_rounds, sure_steps


def read(*rows):
    return [rule_of(row) for row in rows]


CHAIN = read("sure c: s -> t", "sure b: q -> s", "sure a: p -> q", "fact p")


class RoundsTest(unittest.TestCase):
    """[40] and [41]"""

    def test_facts_and_sure_rules_without_premises_in_the_first_round(self):
        self.assertEqual(sure_rounds(read("fact p", "sure a: -> q", "fact -s(a)")), {"p": 1, "q": 1, "-s(a)": 1})

    def test_one_round_behind_the_other(self):
        for order in itertools.permutations(CHAIN):
            self.assertEqual(sure_rounds(list(order)), {"p": 1, "q": 2, "s": 3, "t": 4})

    def test_all_premises_are_needed(self):
        rules = read("fact p", "sure a: p, q -> s", "sure b: p, p -> t")
        self.assertEqual(sure_rounds(rules), {"p": 1, "t": 2})
        self.assertEqual(sure_rounds(rules + read("sure c: t -> q")), {"p": 1, "t": 2, "q": 3, "s": 4})

    def test_most_rules_and_blocks_make_nothing_sure(self):
        self.assertEqual(sure_rounds(read("fact p", "most a: p -> q", "block b: p -> s", "most c: -> t", "block d: -> u",
                                          "sure e: q -> v")), {"p": 1})

    def test_a_statement_and_its_opposite_may_both_become_sure(self):
        self.assertEqual(sure_rounds(read("fact p", "fact -p", "sure a: p, -p -> -q", "sure b: -q -> q")),
                         {"p": 1, "-p": 1, "-q": 2, "q": 3})

    def test_the_opposite_does_not_keep_anything_back(self):
        self.assertEqual(sure_rounds(read("fact -q", "fact p", "sure a: p -> q")), {"-q": 1, "p": 1, "q": 2})

    def test_the_first_round_in_which_it_comes_is_its_rank(self):
        self.assertEqual(sure_rounds(CHAIN + read("sure d: p -> t", "sure e: t -> p")), {"p": 1, "q": 2, "t": 2, "s": 3})

    def test_rings_make_nothing_sure(self):
        self.assertEqual(sure_rounds(read("sure a: p -> q", "sure b: q -> p", "sure c: s -> s")), {})
        self.assertEqual(sure_rounds([]), {})

    def test_what_is_known_helps_and_is_not_told(self):
        self.assertEqual(sure_rounds(CHAIN, ["q"]), {"p": 1, "s": 1, "t": 2})
        self.assertEqual(sure_rounds(CHAIN, ["p"]), {"q": 1, "s": 2, "t": 3})
        self.assertEqual(sure_rounds(CHAIN, ["p", "q", "s", "t"]), {})
        self.assertEqual(sure_rounds(CHAIN, ["x", "x", "-p"]), {"p": 1, "q": 2, "s": 3, "t": 4})
        self.assertEqual(sure_rounds([], ["p"]), {})

    def test_nothing_known(self):
        self.assertEqual(sure_rounds(CHAIN, None), sure_rounds(CHAIN))
        self.assertEqual(sure_rounds(CHAIN, []), sure_rounds(CHAIN))
        self.assertEqual(sure_rounds(CHAIN, known=["s"]), {"p": 1, "t": 1, "q": 2})

    def test_against_the_plain_way(self):
        for number in range(300):
            rules = made.ground_parts(number)[0]
            self.assertEqual(sure_rounds(rules), oracle.sure_ranks(rules))
            known = oracle.statements_in(rules)[::4]
            self.assertEqual(sure_rounds(rules, known), oracle.sure_ranks(rules, known))

    def test_lists_stay_and_what_is_told_is_new(self):
        rules, known = list(CHAIN), ["q"]
        told = sure_rounds(rules, known)
        self.assertIs(told.__class__, dict)
        self.assertEqual((rules, known), (CHAIN, ["q"]))
        rules.clear()
        known.clear()
        self.assertEqual(told, {"p": 1, "s": 1, "t": 2})
        told.clear()
        self.assertEqual(sure_rounds(CHAIN, ["q"]), {"p": 1, "s": 1, "t": 2})


class StepsTest(unittest.TestCase):
    """[42]"""

    def test_by_ranks_and_then_as_texts(self):
        here = ground("sure a: b -> -z", "fact c", "fact b", "sure d: c -> a", "sure e: a -> -a", "fact -b", "fact b(a)")
        self.assertEqual(sure_steps(here), ["-b", "b", "b(a)", "c", "-z", "a", "-a"])

    def test_nothing_sure(self):
        self.assertEqual(sure_steps(ground()), [])
        self.assertEqual(sure_steps(ground("most a: -> p", "sure b: p -> q")), [])

    def test_the_same_in_whatever_order_the_rules_stand(self):
        for order in itertools.permutations(CHAIN + read("fact -p")):
            self.assertEqual(sure_steps(Ground(list(order), [])), ["-p", "p", "q", "s", "t"])

    def test_one_more_rule_takes_none_away(self):
        for number in range(150):
            rules = made.ground_parts(number)[0]
            for at in range(len(rules)):
                fewer = sure_steps(Ground(rules[:at] + rules[at + 1:], []))
                self.assertLessEqual(set(fewer), set(sure_steps(Ground(rules, []))))

    def test_a_told_list_is_the_askers_own(self):
        here = Ground(CHAIN, [])
        sure_steps(here).clear()
        self.assertEqual(sure_steps(here), ["p", "q", "s", "t"])


def plainly_a_sure_set(rules, some):
    """[43], said once more."""
    sure = [rule for rule in rules if rule.word() in ("fact", "sure")]
    if len(set(some)) < len(some):
        return False
    for at, text in enumerate(some):
        if not any(rule.head == text and set(rule.body) <= set(some[:at]) for rule in sure):
            return False
    return all(rule.head in some for rule in sure if set(rule.body) <= set(some))


class SureSetTest(unittest.TestCase):
    """[43] and [44]"""

    def test_the_told_list_is_one(self):
        for number in range(200):
            here = made.ground(number)
            self.assertIs(is_sure_set(here, sure_steps(here)), True)

    def test_one_lacking(self):
        here = Ground(CHAIN, [])
        for some in ([], ["p"], ["p", "q"], ["p", "q", "s"], ["q", "s", "t"], ["p", "q", "t"], ["p", "s", "t"]):
            self.assertIs(is_sure_set(here, some), False, some)

    def test_one_too_many(self):
        here = Ground(CHAIN, [])
        for more in ("x", "-p", "u(a)", ""):
            for at in range(5):
                some = ["p", "q", "s", "t"]
                some.insert(at, more)
                self.assertIs(is_sure_set(here, some), False, some)

    def test_one_twice(self):
        here = Ground(CHAIN, [])
        for twice in ("p", "q", "s", "t"):
            for at in range(5):
                some = ["p", "q", "s", "t"]
                some.insert(at, twice)
                self.assertIs(is_sure_set(here, some), False, some)

    def test_another_order(self):
        here = Ground(CHAIN, [])
        for some in itertools.permutations(["p", "q", "s", "t"]):
            self.assertIs(is_sure_set(here, list(some)), some == ("p", "q", "s", "t"), some)

    def test_any_order_in_which_each_follows_from_ones_ahead(self):
        here = ground("fact p", "fact q", "sure a: p -> s", "sure b: q -> s")
        fine = [["p", "q", "s"], ["q", "p", "s"], ["p", "s", "q"], ["q", "s", "p"]]
        for some in itertools.permutations(["p", "q", "s"]):
            self.assertIs(is_sure_set(here, list(some)), list(some) in fine, some)

    def test_a_ring_does_not_hold_itself_up(self):
        here = ground("sure a: p -> q", "sure b: q -> p")
        self.assertIs(is_sure_set(here, []), True)
        self.assertIs(is_sure_set(here, ["p", "q"]), False)
        self.assertIs(is_sure_set(here, ["p"]), False)
        self.assertIs(is_sure_set(ground("sure a: p -> p"), ["p"]), False)

    def test_most_rules_and_blocks_do_not_count(self):
        here = ground("most a: -> p", "block b: -> q", "sure c: p -> s")
        self.assertIs(is_sure_set(here, []), True)
        for some in (["p"], ["q"], ["p", "s"]):
            self.assertIs(is_sure_set(here, some), False)

    def test_a_statement_and_its_opposite(self):
        here = ground("fact p", "fact -p")
        self.assertIs(is_sure_set(here, ["p", "-p"]), True)
        self.assertIs(is_sure_set(here, ["-p", "p"]), True)
        self.assertIs(is_sure_set(here, ["p"]), False)

    def test_sure_rules_without_premises(self):
        here = ground("sure a: -> p", "sure b: p, p -> q")
        self.assertIs(is_sure_set(here, ["p", "q"]), True)
        self.assertIs(is_sure_set(here, ["p"]), False)
        self.assertIs(is_sure_set(here, []), False)

    def test_texts_that_are_no_statements(self):
        for text in ("", " ", "P", "p q", "--", "things a"):
            self.assertIs(is_sure_set(ground("fact p"), ["p", text]), False)
            self.assertIs(is_sure_set(ground("fact p"), [text]), False)

    def test_against_the_plain_way_over_lists_that_anybody_may_write(self):
        source = random.Random(43)
        for number in range(300):
            rules = made.ground_parts(number)[0]
            here = Ground(rules, [])
            told = sure_steps(here)
            for _ in range(12):
                some = list(told)
                source.shuffle(some)
                if source.random() < 0.4 and some:
                    some.pop(source.randrange(len(some)))
                if source.random() < 0.3:
                    some.insert(source.randint(0, len(some)), source.choice(here.statements()))
                wanted = plainly_a_sure_set(rules, some)
                self.assertIs(is_sure_set(here, some), wanted)
                if wanted:
                    self.assertEqual(sorted(some), sorted(told))

    def test_the_list_stays(self):
        some = ["p", "q", "s", "t"]
        self.assertIs(is_sure_set(Ground(CHAIN, []), some), True)
        self.assertEqual(some, ["p", "q", "s", "t"])


if __name__ == "__main__":
    unittest.main()
