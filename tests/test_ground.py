"""[32], [37], what [2] says of them, and the interface of mostwise/ground.py."""

import itertools
import unittest

from mostwise.ground import Ground, ground_of, written_out
from mostwise.lines import rule_of
from mostwise.rules import Block, Fact, Most, Sure

EIGHT = list("hgfedcba")


def seen(rule):
    return (rule.__class__, rule.label, rule.head, rule.body)


def rows(rules):
    return [rule.row() for rule in rules]


def read(*texts):
    return [rule_of(text) for text in texts]


class ToldBook:
    """What the interface says that a book tells, and nothing more."""

    def __init__(self, things, facts, rules, beats):
        self.told = (things, facts, rules, beats)

    def things(self):
        return list(self.told[0])

    def facts(self):
        return list(self.told[1])

    def rules(self):
        return list(self.told[2])

    def beats(self):
        return list(self.told[3])


class WrittenOutTest(unittest.TestCase):
    """[32]"""

    def test_without_letters_a_rule_is_written_out_to_itself_alone(self):
        for rule in read("fact p", "fact p(a,b)", "sure r: -> p", "most r: q(a), -p -> -p(b)", "block r: p -> p"):
            for things in (["a"], ["b", "a"], EIGHT):
                self.assertEqual([seen(told) for told in written_out(rule, things)], [seen(rule)])
                self.assertIs(written_out(rule, things)[0], rule)

    def test_one_letter_goes_through_the_things_in_their_order(self):
        rule = rule_of("most r: bird(A), -sick(A) -> flies(A)")
        self.assertEqual(rows(written_out(rule, ["tux", "ann"])),
                         ["most r: bird(tux), -sick(tux) -> flies(tux)", "most r: bird(ann), -sick(ann) -> flies(ann)"])
        self.assertEqual(rows(written_out(rule, ["z"])), ["most r: bird(z), -sick(z) -> flies(z)"])
        self.assertEqual(rows(written_out(rule_of("sure r: -> p(X)"), EIGHT)),
                         ["sure r: -> p(" + thing + ")" for thing in EIGHT])

    def test_the_last_letter_goes_fastest_by_the_order_in_which_the_rule_tells_them(self):
        self.assertEqual(rows(written_out(rule_of("sure r: -> p(B,A)"), ["x", "y"])),
                         ["sure r: -> p(x,x)", "sure r: -> p(x,y)", "sure r: -> p(y,x)", "sure r: -> p(y,y)"])
        self.assertEqual(rows(written_out(rule_of("block r: q(B,A) -> p(A)"), ["y", "x"])),
                         ["block r: q(y,y) -> p(y)", "block r: q(x,y) -> p(y)",
                          "block r: q(y,x) -> p(x)", "block r: q(x,x) -> p(x)"])

    def test_three_letters(self):
        told = written_out(rule_of("most r: q(Z), q(M) -> p(A)"), ["a", "b"])
        self.assertEqual(rows(told), ["most r: q(" + z + "), q(" + m + ") -> p(" + a + ")"
                                      for a, z, m in itertools.product("ab", repeat=3)])

    def test_how_many_there_are_over_one_and_over_eight_things(self):
        wanted = {"sure r: p(a) -> q": 0, "sure r: p(A) -> q": 1, "sure r: p(A), p(B) -> q": 2,
                  "sure r: p(A,B) -> q(C)": 3}
        for row, letters in wanted.items():
            for things in (EIGHT[:1], EIGHT[:3], EIGHT):
                self.assertEqual(len(written_out(rule_of(row), things)), len(things) ** letters)

    def test_all_ways_over_eight_things(self):
        told = written_out(rule_of("sure r: p(C,B), q(B) -> s(A,C)"), EIGHT)
        self.assertEqual(rows(told), ["sure r: p(" + c + "," + b + "), q(" + b + ") -> s(" + a + "," + c + ")"
                                      for a, c, b in itertools.product(EIGHT, repeat=3)])

    def test_the_same_letter_is_the_same_thing_everywhere(self):
        self.assertEqual(rows(written_out(rule_of("sure r: p(A,A), -p(A), q(a,A) -> p(A,b)"), ["b"])),
                         ["sure r: p(b,b), -p(b), q(a,b) -> p(b,b)"])

    def test_rules_that_come_out_alike_are_kept_apart(self):
        told = written_out(rule_of("sure r: p(A), p(B) -> q"), ["a", "b"])
        self.assertEqual(rows(told), ["sure r: p(a), p(a) -> q", "sure r: p(a), p(b) -> q",
                                      "sure r: p(b), p(a) -> q", "sure r: p(b), p(b) -> q"])
        told = written_out(rule_of("sure r: p(A), p(B) -> q"), ["a"])
        self.assertEqual(rows(told), ["sure r: p(a), p(a) -> q"])
        told = written_out(rule_of("most r: p(A), p(A) -> q"), ["a", "a"])
        self.assertEqual(rows(told), ["most r: p(a), p(a) -> q"] * 2)

    def test_each_keeps_kind_and_label(self):
        for sort in (Sure, Most, Block):
            for told in written_out(sort("r1", "p(A)", ("q(A,B)",)), ["a", "b", "c"]):
                self.assertEqual((told.__class__, told.label), (sort, "r1"))

    def test_rule_and_things_stay_and_what_is_told_is_the_askers_own(self):
        for rule in read("most r: q(A) -> p(A)", "fact p", "sure r: -> p"):
            things, before = ["a", "b"], seen(rule)
            told = written_out(rule, things)
            self.assertIs(told.__class__, list)
            wanted = rows(told)
            self.assertEqual((things, seen(rule)), (["a", "b"], before))
            things.append("c")
            self.assertEqual(rows(told), wanted)
            told.clear()
            self.assertEqual(rows(written_out(rule, ["a", "b"])), wanted)


SOME = read("fact p", "sure s1: q, -q -> p", "most m1: p -> -p", "block b1: -> p", "most m2: -p -> q",
            "block b2: q -> -p", "fact -p", "most m1: q, q -> -p")


class GroundTest(unittest.TestCase):
    """[37], what a written-out book tells"""

    def setUp(self):
        self.ground = Ground(SOME, [("m1", "s1"), ("m2", "m1"), ("b1", "b1")])

    def test_all_its_rules_in_their_order(self):
        self.assertEqual(self.ground.rules(), SOME)
        self.assertEqual(Ground(SOME[::-1], []).rules(), SOME[::-1])

    def test_the_rules_whose_head_is_a_statement(self):
        self.assertEqual(self.ground.ruling("p"), [SOME[0], SOME[1], SOME[3]])
        self.assertEqual(self.ground.ruling("-p"), [SOME[2], SOME[5], SOME[6], SOME[7]])
        self.assertEqual(self.ground.ruling("q"), [SOME[4]])
        self.assertEqual(self.ground.ruling("-q"), [])
        self.assertEqual(self.ground.ruling("nowhere(a)"), [])

    def test_those_that_speak(self):
        self.assertEqual(self.ground.speaking("p"), [SOME[0], SOME[1]])
        self.assertEqual(self.ground.speaking("-p"), [SOME[2], SOME[6], SOME[7]])
        self.assertEqual(self.ground.speaking("q"), [SOME[4]])
        self.assertEqual(self.ground.speaking("-q"), [])

    def test_those_against_whether_they_speak_or_not(self):
        self.assertEqual(self.ground.against("p"), [SOME[2], SOME[5], SOME[6], SOME[7]])
        self.assertEqual(self.ground.against("-p"), [SOME[0], SOME[1], SOME[3]])
        self.assertEqual(self.ground.against("-q"), [SOME[4]])
        self.assertEqual(self.ground.against("q"), [])
        self.assertEqual(self.ground.against("-nowhere"), [])

    def test_the_lists_keep_the_order_of_all(self):
        for order in itertools.permutations(range(8), 8):
            if order[0] not in (0, 5):
                continue
            ground = Ground([SOME[at] for at in order], [])
            self.assertEqual(ground.ruling("p"), [SOME[at] for at in order if at in (0, 1, 3)])
            self.assertEqual(ground.speaking("p"), [SOME[at] for at in order if at in (0, 1)])
            self.assertEqual(ground.against("p"), [SOME[at] for at in order if at in (2, 5, 6, 7)])

    def test_beats_goes_by_the_labels_of_the_two_rules(self):
        pairs = {("m1", "s1"), ("m2", "m1"), ("b1", "b1")}
        for one in SOME:
            for other in SOME:
                self.assertIs(self.ground.beats(one, other), (one.label, other.label) in pairs)

    def test_beats_is_not_drawn_on_over_more_steps(self):
        self.assertIs(self.ground.beats(SOME[4], SOME[1]), False)
        self.assertIs(self.ground.beats(SOME[1], SOME[2]), False)

    def test_statements_are_heads_and_premises_and_opposites_once_and_rising(self):
        self.assertEqual(self.ground.statements(), ["-p", "-q", "p", "q"])
        ground = Ground(read("most r: q(b), -zz -> p(a,b)", "fact ab"), [])
        self.assertEqual(ground.statements(), ["-ab", "-p(a,b)", "-q(b)", "-zz", "ab", "p(a,b)", "q(b)", "zz"])
        self.assertEqual(Ground([], []).statements(), [])
        self.assertEqual(Ground(read("block b: -x -> y"), []).statements(), ["-x", "-y", "x", "y"])

    def test_a_beginning_stands_ahead_of_what_goes_on(self):
        ground = Ground(read("fact p(b)", "fact p(a,b)", "fact pa", "fact p(a)", "fact p", "fact p(ab)", "fact pp(a)"), [])
        told = ["p", "p(a)", "p(a,b)", "p(ab)", "p(b)", "pa", "pp(a)"]
        self.assertEqual(ground.statements(), ["-" + text for text in told] + told)

    def test_pairs_that_name_no_rule_or_stand_twice(self):
        ground = Ground(SOME, [("x", "y"), ("m1", "s1"), ("m1", "s1")])
        self.assertIs(ground.beats(SOME[2], SOME[1]), True)
        self.assertIs(ground.beats(SOME[1], SOME[2]), False)

    def test_the_part_with_some_heads(self):
        part = self.ground.part(["-p", "q", "nowhere"])
        self.assertIs(part.__class__, Ground)
        self.assertEqual(part.rules(), [SOME[2], SOME[4], SOME[5], SOME[6], SOME[7]])
        self.assertEqual(self.ground.part(["q", "-p"]).rules(), part.rules())
        self.assertEqual(self.ground.part(["-p", "-p", "q"]).rules(), part.rules())
        self.assertEqual(self.ground.part([]).rules(), [])
        self.assertEqual(self.ground.part(["p", "-p", "q", "-q"]).rules(), SOME)

    def test_the_part_has_all_pairs(self):
        part = self.ground.part(["q"])
        for one in SOME:
            for other in SOME:
                self.assertIs(part.beats(one, other), self.ground.beats(one, other))
        again = part.part([])
        self.assertIs(again.beats(SOME[2], SOME[1]), True)

    def test_the_part_tells_of_its_own_rules_alone(self):
        part = self.ground.part(["q"])
        self.assertEqual(part.ruling("p"), [])
        self.assertEqual(part.statements(), ["-p", "-q", "p", "q"])
        self.assertEqual(self.ground.part(["p"]).against("p"), [])


class OwnTest(unittest.TestCase):
    """[2] of written-out books"""

    def told(self, ground):
        return (ground.rules(), ground.ruling("p"), ground.speaking("p"), ground.against("p"), ground.ruling("x"),
                ground.speaking("x"), ground.against("x"), ground.statements(), ground.beats(SOME[2], SOME[1]),
                ground.part(["p"]).rules())

    def test_lists_that_are_handed_in_stay_and_may_be_changed_behind(self):
        rules, pairs, some = list(SOME), [("m1", "s1")], ["p"]
        ground = Ground(rules, pairs)
        part = ground.part(some)
        self.assertEqual((rules, pairs, some), (SOME, [("m1", "s1")], ["p"]))
        before, part_before = self.told(ground), self.told(part)
        rules.clear()
        pairs.clear()
        some.append("-p")
        self.assertEqual(self.told(ground), before)
        self.assertEqual(self.told(part), part_before)

    def test_what_is_told_is_new_and_the_askers_own(self):
        ground = Ground(SOME, [("m1", "s1")])
        before = self.told(ground)
        for told in self.told(ground):
            if isinstance(told, list):
                told.append("x")
                told.reverse()
        self.assertEqual(self.told(ground), before)

    def test_a_part_and_its_whole_stay_as_they_are(self):
        ground = Ground(SOME, [("m1", "s1")])
        before = self.told(ground)
        part = ground.part(["p"])
        part.rules().clear()
        part.statements().clear()
        self.assertEqual(self.told(ground), before)


class GroundOfTest(unittest.TestCase):
    """[37], of a book"""

    def test_facts_first_then_each_rule_written_out(self):
        rules = read("most r: q(A) -> p(A)", "block a: -> -p(B,A)", "sure z: p(b) -> q(c)")
        ground = ground_of(ToldBook(["b", "a"], ["z", "-p(a)"], rules, [("r", "a"), ("z", "r")]))
        self.assertIs(ground.__class__, Ground)
        self.assertEqual(rows(ground.rules()), [
            "fact z", "fact -p(a)", "most r: q(b) -> p(b)", "most r: q(a) -> p(a)", "block a: -> -p(b,b)",
            "block a: -> -p(b,a)", "block a: -> -p(a,b)", "block a: -> -p(a,a)", "sure z: p(b) -> q(c)"])
        self.assertEqual([rule.__class__ for rule in ground.rules()],
                         [Fact, Fact, Most, Most, Block, Block, Block, Block, Sure])

    def test_its_pairs(self):
        rules = read("most r: q(A) -> p(A)", "block a: -> -p(A)", "sure z: p(b) -> q(c)")
        ground = ground_of(ToldBook(["b", "a"], ["z"], rules, [("r", "a"), ("z", "r")]))
        told = {(one.label, other.label) for one in ground.rules() for other in ground.rules() if ground.beats(one, other)}
        self.assertEqual(told, {("r", "a"), ("z", "r")})

    def test_a_book_without_anything(self):
        ground = ground_of(ToldBook(["a"], [], [], []))
        self.assertEqual((ground.rules(), ground.statements(), ground.ruling("p")), ([], [], []))

    def test_rules_that_come_out_alike_stand_as_often(self):
        ground = ground_of(ToldBook(["a", "b"], [], read("sure r: p(A) -> q", "sure s: -> q"), []))
        self.assertEqual(rows(ground.ruling("q")), ["sure r: p(a) -> q", "sure r: p(b) -> q", "sure s: -> q"])
        ground = ground_of(ToldBook(["a"], ["q"], read("sure r: -> q", "sure s: -> q"), []))
        self.assertEqual(rows(ground.ruling("q")), ["fact q", "sure r: -> q", "sure s: -> q"])


if __name__ == "__main__":
    unittest.main()
