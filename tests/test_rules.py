"""[20] to [23], what [2] and [3] say of them, and the interface of mostwise/rules.py."""

import itertools
import unittest

from mostwise.rules import Block, Fact, Most, Rule, Sure

LABELLED = [Sure, Most, Block]
WORDS = {Fact: "fact", Sure: "sure", Most: "most", Block: "block"}


def seen(rule):
    return (rule.__class__, rule.label, rule.head, rule.body)


class MakingTest(unittest.TestCase):
    """[20]"""

    def test_each_sort_stands_straight_under_rule(self):
        for sort in WORDS:
            self.assertEqual(sort.__bases__, (Rule,))
        self.assertEqual(Rule.__bases__, (object,))

    def test_a_fact_has_the_label_without_signs_and_no_premises(self):
        for head in ("rain", "-rain", "p(a)", "-p(a,b)", "p(a,a)", "-abcdefgh(abcdefgh,z)"):
            self.assertEqual(seen(Fact(head)), (Fact, "", head, ()))

    def test_the_others_have_label_head_and_body(self):
        for sort in LABELLED:
            self.assertEqual(seen(sort("r1", "p(A)", ("q(A)", "-s"))), (sort, "r1", "p(A)", ("q(A)", "-s")))

    def test_labels_of_one_and_eight_signs(self):
        for sort in LABELLED:
            for label in ("a", "0", "abcd0189", "99999999"):
                self.assertEqual(sort(label, "p", ()).label, label)

    def test_the_body_is_a_tuple_of_whatever_list_or_tuple(self):
        for sort in LABELLED:
            for body in ([], (), ["q"], ("q",), ["q", "s"], ("q", "s")):
                rule = sort("r", "p", body)
                self.assertIs(rule.body.__class__, tuple)
                self.assertEqual(rule.body, tuple(body))

    def test_premises_keep_their_order_and_stand_as_often_as_told(self):
        bodies = list(itertools.permutations(["p", "-p", "q", "-q"]))
        bodies += [("q", "q"), ("q", "q", "q", "q"), ("p",), ("-p",), ("p", "p"), ("q", "-q"), ("-p", "q", "p", "q")]
        for sort in LABELLED:
            for body in bodies:
                self.assertEqual(sort("r", "p", body).body, body)

    def test_a_list_that_is_changed_behind_does_not_change_the_rule(self):
        for sort in LABELLED:
            body = ["q(A)", "s"]
            rule = sort("r", "p(A)", body)
            self.assertEqual(body, ["q(A)", "s"])
            body.append("t")
            body[0] = "u"
            self.assertEqual(rule.body, ("q(A)", "s"))


class TellingTest(unittest.TestCase):
    """[21]"""

    def test_each_tells_its_word(self):
        self.assertEqual(Fact("p").word(), "fact")
        self.assertEqual(Sure("r", "p", ()).word(), "sure")
        self.assertEqual(Most("r", "p", ()).word(), "most")
        self.assertEqual(Block("r", "p", ()).word(), "block")

    def test_each_but_a_block_speaks(self):
        for body in ((), ("q",)):
            self.assertIs(Sure("r", "p", body).speaks(), True)
            self.assertIs(Most("r", "p", body).speaks(), True)
            self.assertIs(Block("r", "p", body).speaks(), False)
        self.assertIs(Fact("p").speaks(), True)

    def test_facts_and_sure_rules_are_sure(self):
        for body in ((), ("q",)):
            self.assertIs(Sure("r", "p", body).is_sure(), True)
            self.assertIs(Most("r", "p", body).is_sure(), False)
            self.assertIs(Block("r", "p", body).is_sure(), False)
        self.assertIs(Fact("p").is_sure(), True)

    def test_letters_head_first_then_premises_each_once(self):
        cases = [
            (("p", ()), []),
            (("p(a)", ("q(b)", "-s(c,d)")), []),
            (("p(X)", ()), ["X"]),
            (("p", ("q(X)",)), ["X"]),
            (("p(Z,A)", ("q(M)",)), ["Z", "A", "M"]),
            (("p(A,Z)", ("q(M)",)), ["A", "Z", "M"]),
            (("p(C)", ("q(B,A)", "s(A,B)", "t(C)", "u(B)")), ["C", "B", "A"]),
            (("p", ("q(B)", "s(A)", "t(C)", "u(A,B)")), ["B", "A", "C"]),
            (("p(X,X)", ("-p(X,X)", "q(X)", "q(X)")), ["X"]),
            (("-p(x,Y)", ("q(Y,X)", "s(x)")), ["Y", "X"]),
            (("p", ("q(X)", "-q(X)", "q(Y)", "q(X)")), ["X", "Y"]),
        ]
        for sort in LABELLED:
            for (head, body), letters in cases:
                self.assertEqual(sort("r", head, body).letters(), letters)

    def test_a_fact_has_no_letters(self):
        for head in ("p", "-p", "p(a)", "p(a,b)"):
            self.assertEqual(Fact(head).letters(), [])

    def test_the_told_letters_are_a_new_list(self):
        for rule in [sort("r", "p(X)", ("q(Y)",)) for sort in LABELLED]:
            told = rule.letters()
            self.assertIs(told.__class__, list)
            told.append("Z")
            told[0] = "W"
            self.assertEqual(rule.letters(), ["X", "Y"])
            self.assertEqual(rule.row(), rule.word() + " r: q(Y) -> p(X)")
        nothing = Fact("p").letters()
        nothing.append("Z")
        self.assertEqual(Fact("p").letters(), [])


class AgainTest(unittest.TestCase):
    """[22], a rule made again"""

    def test_another_head_and_body_but_the_same_sort_and_label(self):
        for sort in LABELLED:
            rule = sort("r1", "p(A)", ("q(A)", "s"))
            for body in ((), [], ("t",), ["t", "t"], ("-u(A,B)", "u(A,B)", "u(C,C)", "u(B,A)"), ["q(A)", "s"]):
                self.assertEqual(seen(rule.again("-u(A,B)", body)), (sort, "r1", "-u(A,B)", tuple(body)))

    def test_the_rule_stays_as_it_is(self):
        for sort in LABELLED:
            rule = sort("r1", "p(A)", ("q(A)", "s"))
            self.assertIsNot(rule.again("u", ("t",)), rule)
            self.assertEqual(seen(rule), (sort, "r1", "p(A)", ("q(A)", "s")))

    def test_the_handed_list_stays_and_may_be_changed_behind(self):
        for sort in LABELLED:
            body = ["t", "u"]
            rule = sort("r1", "p", ()).again("q", body)
            self.assertEqual(body, ["t", "u"])
            body.clear()
            self.assertEqual(rule.body, ("t", "u"))

    def test_of_a_fact_the_premises_are_left_aside(self):
        fact = Fact("p(a)")
        for body in ((), [], ("q",), ["q", "-q", "p(a)", "q"]):
            self.assertEqual(seen(fact.again("-q(b)", body)), (Fact, "", "-q(b)", ()))
        self.assertEqual(seen(fact), (Fact, "", "p(a)", ()))

    def test_made_again_twice(self):
        for sort in LABELLED:
            rule = sort("r1", "p", ()).again("q", ["s"]).again("t", ["u(X)"])
            self.assertEqual(seen(rule), (sort, "r1", "t", ("u(X)",)))
            self.assertEqual(rule.row(), WORDS[sort] + " r1: u(X) -> t")


class FilledTest(unittest.TestCase):
    """[22], a rule filled"""

    def test_head_and_each_premise_are_filled(self):
        for sort in LABELLED:
            rule = sort("r1", "-p(A,B)", ("q(B)", "-q(C)", "q(B,A)", "s"))
            told = rule.filled({"A": "ann", "B": "bob", "C": "ann"})
            self.assertEqual(seen(told), (sort, "r1", "-p(ann,bob)", ("q(bob)", "-q(ann)", "q(bob,ann)", "s")))

    def test_other_letters_and_things_stay(self):
        for sort in LABELLED:
            rule = sort("r1", "p(A,a)", ("q(B,A)", "q(b)"))
            self.assertEqual(seen(rule.filled({"B": "bob", "a": "x", "b": "x"})),
                             (sort, "r1", "p(A,a)", ("q(bob,A)", "q(b)")))
            self.assertEqual(seen(rule.filled({})), seen(rule))

    def test_premises_that_come_out_alike_all_stay(self):
        for sort in LABELLED:
            rule = sort("r1", "p(A)", ("p(A)", "p(B)", "-p(A)", "p(C)"))
            self.assertEqual(rule.filled({"A": "a", "B": "a", "C": "a"}).body, ("p(a)", "p(a)", "-p(a)", "p(a)"))

    def test_without_premises(self):
        for sort in LABELLED:
            self.assertEqual(seen(sort("r1", "p(A)", ()).filled({"A": "a"})), (sort, "r1", "p(a)", ()))

    def test_a_fact_filled_tells_the_same(self):
        for given in ({}, {"A": "b"}, {"a": "b", "p": "q"}):
            self.assertEqual(seen(Fact("p(a)").filled(given)), (Fact, "", "p(a)", ()))

    def test_rule_and_dict_stay_as_they_were(self):
        for sort in LABELLED:
            rule = sort("r1", "p(A)", ("q(A,B)",))
            given = {"A": "ann"}
            told = rule.filled(given)
            self.assertEqual(given, {"A": "ann"})
            given["A"] = "bob"
            given["B"] = "bob"
            self.assertEqual(seen(told), (sort, "r1", "p(ann)", ("q(ann,B)",)))
            self.assertEqual(seen(rule), (sort, "r1", "p(A)", ("q(A,B)",)))


class RowTest(unittest.TestCase):
    """[23]"""

    def test_the_rows_of_the_document(self):
        self.assertEqual(Sure("r1", "flies(A)", ["bird(A)"]).row(), "sure r1: bird(A) -> flies(A)")
        self.assertEqual(Most("r2", "-flies(A)", ["penguin(A)", "-sick(A)"]).row(),
                         "most r2: penguin(A), -sick(A) -> -flies(A)")
        self.assertEqual(Block("b", "cold", []).row(), "block b: -> cold")

    def test_facts(self):
        for head in ("rain", "-rain", "p(a)", "-likes(ann,bob)"):
            self.assertEqual(Fact(head).row(), "fact " + head)

    def test_without_premises_there_is_just_one_blank(self):
        for sort in LABELLED:
            for body in ((), []):
                self.assertEqual(sort("0", "-p(A,b)", body).row(), WORDS[sort] + " 0: -> -p(A,b)")

    def test_one_to_four_premises(self):
        for sort in LABELLED:
            word = WORDS[sort]
            self.assertEqual(sort("abcd0189", "p", ("q",)).row(), word + " abcd0189: q -> p")
            self.assertEqual(sort("r", "p", ("q", "q")).row(), word + " r: q, q -> p")
            self.assertEqual(sort("r", "p", ("p", "-p", "q")).row(), word + " r: p, -p, q -> p")
            self.assertEqual(sort("r", "-p(A,B)", ("q(A,B)", "q(B,A)", "s(C)", "-s(C)")).row(),
                             word + " r: q(A,B), q(B,A), s(C), -s(C) -> -p(A,B)")

    def test_rows_of_rules_made_again_and_filled(self):
        rule = Most("r", "p(A)", ("q(A,B)",))
        self.assertEqual(rule.filled({"A": "a"}).row(), "most r: q(a,B) -> p(a)")
        self.assertEqual(rule.again("-s", []).row(), "most r: -> -s")
        self.assertEqual(Fact("p").again("-s(a)", ["q"]).row(), "fact -s(a)")
        self.assertEqual(rule.row(), "most r: q(A,B) -> p(A)")


if __name__ == "__main__":
    unittest.main()
