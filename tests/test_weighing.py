"""[71] and [72], what [2] says of them, and the interface of mostwise/weighing.py."""

import unittest

import made
from made import read_ground as ground
from mostwise.ground import Ground
from mostwise.mostly import Answers
from mostwise.weighing import weighed
from mostwise.words import opposite


class WeighedTest(unittest.TestCase):
    """[71]"""

    def test_facts_have_the_label_without_signs(self):
        self.assertEqual(weighed(ground("fact p"), "p"), ([("", "stands")], []))
        self.assertEqual(weighed(ground("fact p"), "-p"), ([], [("", "stands", [])]))

    def test_nothing_about_it(self):
        self.assertEqual(weighed(ground(), "p"), ([], []))
        self.assertEqual(weighed(ground("most a: p -> q"), "p"), ([], []))

    def test_states(self):
        here = ground("fact q", "most a: -> p", "sure b: q -> p", "most c: q, s -> p", "most d: o -> p", "most e: o -> o",
                      "most f: o, q -> p", "most g: o, s -> p", "fact p", "most h: q, q -> p")
        self.assertEqual(weighed(here, "p"), ([
            ("a", "stands"), ("b", "stands"), ("c", "falls"), ("d", "open"), ("f", "open"), ("g", "falls"), ("", "stands"),
            ("h", "stands")], []))

    def test_blocks_are_weighed_against_and_never_for(self):
        here = ground("block a: -> p", "block b: x -> -p", "most c: -> -p", "block d: -> -p")
        self.assertEqual(weighed(here, "p"), ([], [("b", "falls", []), ("c", "stands", []), ("d", "stands", [])]))
        self.assertEqual(weighed(here, "-p"), ([("c", "stands")], [("a", "stands", [])]))

    def test_beaters_by_none_by_one_by_several(self):
        here = ground("most a: -> p", "most b: x -> p", "block z: -> p", "most c: -> -p", "sure d: -> -p", "fact -p",
                      "most e: -> p", "block f: x -> -p",
                      "beats e c", "beats a c", "beats b c", "beats z c", "beats b d", "beats c a", "beats e f")
        self.assertEqual(weighed(here, "p"), (
            [("a", "stands"), ("b", "falls"), ("e", "stands")],
            [("c", "stands", [0, 1, 2]), ("d", "stands", [1]), ("", "stands", []), ("f", "falls", [2])]))
        self.assertEqual(weighed(here, "-p"), (
            [("c", "stands"), ("d", "stands"), ("", "stands")],
            [("a", "stands", [0]), ("b", "falls", []), ("z", "stands", []), ("e", "stands", [])]))

    def test_beaters_of_whatever_state(self):
        here = ground("most a: o -> p", "most e: o -> o", "most b: x -> p", "most c: -> -p", "beats a c", "beats b c")
        self.assertEqual(weighed(here, "p"), ([("a", "open"), ("b", "falls")], [("c", "stands", [0, 1])]))

    def test_in_the_order_in_which_they_stand_in_the_ground(self):
        rows = ["most c: -> p", "most a: -> p", "most b: -> -p", "beats a b"]
        self.assertEqual(weighed(ground(*rows), "p"), ([("c", "stands"), ("a", "stands")], [("b", "stands", [1])]))
        self.assertEqual(weighed(ground(*rows[::-1]), "p"), ([("a", "stands"), ("c", "stands")], [("b", "stands", [0])]))

    def test_written_out_rules_of_one_label_stand_each_by_itself(self):
        here = ground("most a: q(a) -> p", "most a: q(b) -> p", "fact q(b)", "most b: -> -p", "beats a b")
        self.assertEqual(weighed(here, "p"), ([("a", "falls"), ("a", "stands")], [("b", "stands", [0, 1])]))

    def test_against_the_plain_way(self):
        for number in range(200):
            rules, pairs = made.ground_parts(number, rings=number % 2 == 0)
            here = Ground(rules, pairs)
            answers = Answers(here)

            def state(rule):
                told = [answers.answer(premise) for premise in rule.body]
                if "no" in told:
                    return "falls"
                return "open" if "open" in told else "stands"

            for q in here.statements() + ["x"]:
                speaking = [rule for rule in rules if rule.head == q and rule.word() != "block"]
                against = [rule for rule in rules if rule.head == opposite(q)]
                self.assertEqual(weighed(here, q), (
                    [(rule.label, state(rule)) for rule in speaking],
                    [(rule.label, state(rule), [at for at, one in enumerate(speaking) if (one.label, rule.label) in pairs])
                     for rule in against]))


class ReadOffTest(unittest.TestCase):
    """[72]"""

    def test_the_answer_is_read_off(self):
        for number in range(400):
            here = made.ground(number, rings=number % 3 == 0)
            answers = Answers(here)
            for q in here.statements() + ["x"]:
                speaking, against = weighed(here, q)
                states = [state for _, state in speaking]
                held = answers.sure(q) or (
                    "stands" in states and not answers.sure(opposite(q))
                    and all(state == "falls" or "stands" in [states[at] for at in beaters] for _, state, beaters in against))
                refused = not answers.sure(q) and (
                    all(state == "falls" for state in states) or answers.sure(opposite(q))
                    or any(state == "stands" and all(states[at] == "falls" for at in beaters)
                           for _, state, beaters in against))
                self.assertEqual((held, refused), (answers.held(q), answers.refused(q)))


class OwnTest(unittest.TestCase):
    """[2]"""

    def test_lists_that_are_told_are_the_askers_own(self):
        here = ground("most a: -> p", "most b: -> -p", "beats a b")
        told = weighed(here, "p")
        self.assertEqual([part.__class__ for part in (told,) + told], [tuple, list, list])
        self.assertEqual((told[0][0].__class__, told[1][0].__class__, told[1][0][2].__class__), (tuple, tuple, list))
        again = weighed(here, "p")
        told[1][0][2].append(7)
        told[0].clear()
        told[1].append("x")
        self.assertEqual(weighed(here, "p"), again)


if __name__ == "__main__":
    unittest.main()
