"""[50] to [57], what [2] and [5] say of them, and the interface of mostwise/mostly.py."""

import itertools
import random
import unittest

import made
import oracle
from made import read_ground as ground
from mostwise.ground import Ground, ground_of
from mostwise.leaning import leaners
from mostwise.lines import rule_of
from mostwise.mostly import Answers, holds_by, most_rounds, refused_by
from mostwise.sure import sure_steps
from mostwise.words import opposite


def answered(*rows):
    return dict(Answers(ground(*rows)).listed())


def ranked(here):
    answers = Answers(here)
    return {q: (answers.answer(q), answers.rank(q)) for q in here.statements()}


class HoldsByTest(unittest.TestCase):
    """[50] and [51]"""

    def ask(self, rows, sures, held, refused, q):
        """Asked of lists and of dicts; both must say the same."""
        here = ground(*rows)
        told = holds_by(here, sures, held, refused, q)
        kept = [{text: number for number, text in enumerate(texts)} for texts in (sures, held, refused)]
        self.assertIs(holds_by(here, kept[0], kept[1], kept[2], q), told)
        return told

    def test_what_is_sure_may_be_held_whatever_else_is_so(self):
        self.assertIs(self.ask([], ["p"], [], [], "p"), True)
        self.assertIs(self.ask(["fact -p", "block b: -> -p"], ["p", "-p"], [], ["p"], "p"), True)
        self.assertIs(self.ask([], ["-p"], [], [], "p"), False)

    def test_some_rule_that_speaks_must_stand(self):
        rows = ["most a: q, s -> p"]
        self.assertIs(self.ask(rows, [], ["q", "s"], [], "p"), True)
        self.assertIs(self.ask(rows, [], ["q"], [], "p"), False)
        self.assertIs(self.ask(rows, ["q", "s"], [], [], "p"), False)
        self.assertIs(self.ask(rows, [], ["q", "-s"], [], "p"), False)
        self.assertIs(self.ask(rows + ["sure b: t -> p"], [], ["t"], [], "p"), True)
        self.assertIs(self.ask([], [], ["p"], [], "p"), False)

    def test_a_rule_without_premises_stands(self):
        for row in ("most a: -> p", "sure a: -> p", "fact p"):
            self.assertIs(self.ask([row], [], [], [], "p"), True)

    def test_a_block_does_not_speak(self):
        self.assertIs(self.ask(["block a: -> p"], [], [], [], "p"), False)
        self.assertIs(self.ask(["block a: -> p", "most b: q -> p"], [], [], [], "p"), False)

    def test_the_opposite_must_not_be_sure(self):
        self.assertIs(self.ask(["most a: -> p"], ["-p"], [], [], "p"), False)
        self.assertIs(self.ask(["most a: -> -p"], ["p"], [], [], "-p"), False)

    def test_each_rule_against_must_fall_or_be_beaten(self):
        for word in ("sure", "most", "block"):
            rows = ["most a: -> p", word + " b: q, s -> -p"]
            self.assertIs(self.ask(rows, [], [], [], "p"), False)
            self.assertIs(self.ask(rows, [], ["q"], ["s"], "p"), True)
            self.assertIs(self.ask(rows, [], ["q", "s"], [], "p"), False)
            self.assertIs(self.ask(rows + ["beats a b"], [], ["q", "s"], [], "p"), True)
            self.assertIs(self.ask(rows + ["beats b a"], [], ["q", "s"], [], "p"), False)
            self.assertIs(self.ask(rows + ["most c: -> -p", "beats a b"], [], [], [], "p"), False)
        self.assertIs(self.ask(["most a: -> p", "fact -p"], [], [], [], "p"), False)

    def test_what_beats_must_speak_for_it_and_stand(self):
        rows = ["most a: -> p", "most b: -> -p", "most c: q -> p", "beats c b"]
        self.assertIs(self.ask(rows, [], [], [], "p"), False)
        self.assertIs(self.ask(rows, [], ["q"], [], "p"), True)
        blocked = ["most a: -> p", "most b: -> -p", "block c: -> p", "beats c b"]
        self.assertIs(self.ask(blocked, [], [], [], "p"), False)
        elsewhere = ["most a: -> p", "most b: -> -p", "most c: -> q", "beats c b"]
        self.assertIs(self.ask(elsewhere, [], [], [], "p"), False)

    def test_a_rule_beats_two_and_two_beat_one(self):
        rows = ["most a: -> p", "most b: -> -p", "block c: -> -p"]
        self.assertIs(self.ask(rows + ["beats a b", "beats a c"], [], [], [], "p"), True)
        self.assertIs(self.ask(rows + ["most d: -> p", "beats a b", "beats d c"], [], [], [], "p"), True)
        self.assertIs(self.ask(rows + ["most d: -> p", "beats a b", "beats d b"], [], [], [], "p"), False)

    def test_beating_is_not_drawn_on_over_more_steps(self):
        rows = ["most a: -> p", "most b: -> -p", "most x: -> z", "beats a x", "beats x b"]
        self.assertIs(self.ask(rows, [], [], [], "p"), False)


class RefusedByTest(unittest.TestCase):
    """[50] and [52]"""

    def ask(self, rows, sures, held, refused, q):
        here = ground(*rows)
        told = refused_by(here, sures, held, refused, q)
        kept = [{text: number for number, text in enumerate(texts)} for texts in (sures, held, refused)]
        self.assertIs(refused_by(here, kept[0], kept[1], kept[2], q), told)
        return told

    def test_what_is_sure_may_not_be_refused(self):
        self.assertIs(self.ask([], ["p"], [], [], "p"), False)
        self.assertIs(self.ask(["block b: -> -p"], ["p", "-p"], [], [], "p"), False)

    def test_no_rule_speaks_for_it(self):
        self.assertIs(self.ask([], [], [], [], "p"), True)
        self.assertIs(self.ask(["block a: -> p"], [], [], [], "p"), True)
        self.assertIs(self.ask(["most a: -> -p"], [], [], [], "p"), True)

    def test_each_rule_that_speaks_falls(self):
        rows = ["most a: q, s -> p", "sure b: t -> p"]
        self.assertIs(self.ask(rows, [], [], ["q"], "p"), False)
        self.assertIs(self.ask(rows, [], [], ["t"], "p"), False)
        self.assertIs(self.ask(rows, [], [], ["s", "t"], "p"), True)
        self.assertIs(self.ask(rows, [], ["-q", "-t"], [], "p"), False)
        self.assertIs(self.ask(["most a: -> p"], [], [], ["p"], "p"), False)

    def test_its_opposite_is_sure(self):
        self.assertIs(self.ask(["most a: -> p"], ["-p"], [], [], "p"), True)
        self.assertIs(self.ask(["most a: -> p"], ["q"], [], [], "p"), False)
        self.assertIs(self.ask(["most a: -> -p"], ["p"], [], [], "-p"), True)

    def test_a_rule_against_it_stands_that_nothing_beats(self):
        for word in ("sure", "most", "block"):
            rows = ["most a: -> p", word + " b: q -> -p"]
            self.assertIs(self.ask(rows, [], [], [], "p"), False)
            self.assertIs(self.ask(rows, [], ["q"], [], "p"), True)
            self.assertIs(self.ask(rows + ["beats a b"], [], ["q"], [], "p"), False)
            self.assertIs(self.ask(rows + ["beats b a"], [], ["q"], [], "p"), True)
        self.assertIs(self.ask(["most a: -> p", "fact -p"], [], [], [], "p"), True)

    def test_what_beats_and_falls_does_not_help_and_what_may_yet_stand_does(self):
        rows = ["most a: -> p", "most b: -> -p", "most c: q -> p", "beats c b"]
        self.assertIs(self.ask(rows, [], [], [], "p"), False)
        self.assertIs(self.ask(rows, [], ["q"], [], "p"), False)
        self.assertIs(self.ask(rows, [], [], ["q"], "p"), True)

    def test_one_rule_against_is_enough(self):
        rows = ["most a: -> p", "most b: -> -p", "block c: -> -p", "beats a b"]
        self.assertIs(self.ask(rows, [], [], [], "p"), True)
        self.assertIs(self.ask(rows + ["beats a c"], [], [], [], "p"), False)
        self.assertIs(self.ask(rows + ["most d: -> p", "beats d b"], [], [], [], "p"), True)
        self.assertIs(self.ask(rows + ["most d: -> p", "beats d c"], [], [], [], "p"), False)

    def test_a_block_that_beats_does_not_help(self):
        self.assertIs(self.ask(["most a: -> p", "most b: -> -p", "block c: -> p", "beats c b"], [], [], [], "p"), True)


class AgainstThePlainWayTest(unittest.TestCase):
    """[51], [52] and the first of [56], over much that may be handed in"""

    def test_both_questions_and_never_both(self):
        source = random.Random(51)
        for number in range(400):
            rules, pairs = made.ground_parts(number, rings=number % 2 == 0)
            here = Ground(rules, pairs)
            all_of_them = here.statements()
            for _ in range(3):
                sures = [q for q in all_of_them if source.random() < 0.15]
                words = {q: source.choice(["held", "refused", ""]) for q in all_of_them}
                held = [q for q in all_of_them if words[q] == "held"]
                refused = [q for q in all_of_them if words[q] == "refused"]
                for q in all_of_them + ["x", "-x"]:
                    holds = holds_by(here, sures, held, refused, q)
                    refuses = refused_by(here, sures, held, refused, q)
                    self.assertIs(holds, oracle.may_hold(rules, pairs, sures, held, refused, q))
                    self.assertIs(refuses, oracle.may_refuse(rules, pairs, sures, held, refused, q))
                    self.assertFalse(holds and refuses)


class RoundsTest(unittest.TestCase):
    """[53]"""

    def test_by_what_was_so_ahead_of_the_round(self):
        here = ground("fact p", "most a: p -> q", "most b: q -> s", "most c: -q -> t")
        told = most_rounds(here, here.statements(), ["p"], {})
        self.assertEqual(told, {"p": ("held", 1), "q": ("held", 2), "s": ("held", 3), "-p": ("refused", 1),
                                "-q": ("refused", 1), "-s": ("refused", 1), "-t": ("refused", 1), "t": ("refused", 2)})

    def test_what_is_taken_as_sure_is_what_is_handed_in(self):
        here = ground("most a: -> p", "most b: -> -p")
        self.assertEqual(most_rounds(here, ["p", "-p"], [], {}), {"p": ("refused", 1), "-p": ("refused", 1)})
        self.assertEqual(most_rounds(here, ["p", "-p"], ["p"], {}), {"p": ("held", 1), "-p": ("refused", 1)})
        self.assertEqual(most_rounds(here, ["p", "-p"], {"p": 1, "-p": 1}, {}), {"p": ("held", 1), "-p": ("held", 1)})

    def test_what_is_known_helps_and_is_not_told(self):
        here = ground("most a: q -> p", "most b: s -> p", "most c: p -> t")
        self.assertEqual(most_rounds(here, ["p", "t"], [], {"q": "held"}), {"p": ("held", 1), "t": ("held", 2)})
        self.assertEqual(most_rounds(here, ["p", "t"], [], {"q": "refused", "s": "refused"}),
                         {"p": ("refused", 1), "t": ("refused", 2)})
        self.assertEqual(most_rounds(here, ["p", "t"], [], {"q": "refused"}), {})

    def test_what_is_neither_in_the_list_nor_known_stays_out(self):
        here = ground("fact q", "most a: q -> p")
        self.assertEqual(most_rounds(here, ["p"], ["q"], {}), {})
        self.assertEqual(most_rounds(here, ["p", "q"], ["q"], {}), {"q": ("held", 1), "p": ("held", 2)})

    def test_the_list_may_name_what_stands_nowhere_in_any_order_and_twice(self):
        here = ground("fact q", "most a: q -> p")
        wanted = {"q": ("held", 1), "p": ("held", 2), "x": ("refused", 1)}
        for some in itertools.permutations(["p", "q", "x", "x", "p"]):
            self.assertEqual(most_rounds(here, list(some), ["q"], {}), wanted)

    def test_an_empty_list(self):
        self.assertEqual(most_rounds(ground("fact p"), [], ["p"], {}), {})
        self.assertEqual(most_rounds(ground(), [], [], {}), {})

    def test_a_statement_that_holds_and_leans_on_none_of_the_last_round(self):
        here = ground("most a: -> p", "most b: p -> q", "most c: q -> s", "block d: s, -p -> -q")
        self.assertEqual(most_rounds(here, here.statements(), [], {})["q"], ("held", 2))

    def test_against_the_plain_way(self):
        source = random.Random(53)
        for number in range(400):
            rules, pairs = made.ground_parts(number, rings=number % 2 == 0)
            here = Ground(rules, pairs)
            all_of_them = here.statements()
            some = [q for q in all_of_them if source.random() < 0.7]
            sures = [q for q in all_of_them if source.random() < 0.15]
            known = {q: source.choice(["held", "refused"]) for q in all_of_them if q not in some and source.random() < 0.5}
            self.assertEqual(most_rounds(here, some, sures, known), oracle.rounds(rules, pairs, some, sures, known))
            self.assertEqual(most_rounds(here, all_of_them, sures, {}), oracle.rounds(rules, pairs, all_of_them, sures, {}))

    def test_what_is_handed_in_stays_and_what_is_told_is_new(self):
        here = ground("most a: q -> p", "most b: s -> p")
        for sures in ([], {}, ["z"], {"z": 1}):
            some, known = ["p"], {"q": "held"}
            before = (list(some), sures.copy(), dict(known))
            told = most_rounds(here, some, sures, known)
            self.assertIs(told.__class__, dict)
            self.assertEqual((some, sures, known), before)
            some.append("-p")
            known.clear()
            self.assertEqual(told, {"p": ("held", 1)})
            told.clear()
            self.assertEqual(most_rounds(here, ["p"], sures, {"q": "held"}), {"p": ("held", 1)})

    def test_lists_that_the_questions_are_handed_stay(self):
        here = ground("most a: q -> p")
        handed = (["s"], ["q"], ["t"])
        holds_by(here, *handed, "p")
        refused_by(here, *handed, "p")
        self.assertEqual(handed, (["s"], ["q"], ["t"]))


class AnswersTest(unittest.TestCase):
    """[54] and [55]"""

    def test_birds(self):
        told = answered("fact penguin", "sure a: penguin -> bird", "most b: bird -> flies", "most c: penguin -> -flies",
                        "most d: flies -> safe", "beats c b")
        self.assertEqual(told, {
            "penguin": "surely", "-penguin": "no", "bird": "surely", "-bird": "no", "flies": "no", "-flies": "mostly",
            "safe": "no", "-safe": "no"})

    def test_ranks(self):
        here = ground("fact p", "sure a: p -> q", "most b: q -> s", "most c: s -> t", "most d: -s -> u")
        self.assertEqual(ranked(here), {
            "p": ("surely", 1), "q": ("surely", 1), "s": ("mostly", 2), "t": ("mostly", 3), "u": ("no", 2),
            "-p": ("no", 1), "-q": ("no", 1), "-s": ("no", 1), "-t": ("no", 1), "-u": ("no", 1)})

    def test_an_even_match_refuses_both(self):
        self.assertEqual(answered("most a: -> p", "most b: -> -p"), {"p": "no", "-p": "no"})

    def test_the_one_that_beats_wins(self):
        rows = ["most a: -> p", "most b: -> -p"]
        self.assertEqual(answered(*rows, "beats a b"), {"p": "mostly", "-p": "no"})
        self.assertEqual(answered(*rows, "beats b a"), {"p": "no", "-p": "mostly"})

    def test_both_sides_sure(self):
        self.assertEqual(answered("fact p", "fact -p", "most a: p -> q", "most b: -p -> -s"), {
            "p": "surely", "-p": "surely", "q": "mostly", "-q": "no", "s": "no", "-s": "mostly"})

    def test_sure_rules_without_premises(self):
        here = ground("sure a: -> p", "most b: -> -p", "beats b a")
        self.assertEqual(ranked(here), {"p": ("surely", 1), "-p": ("no", 1)})

    def test_a_sure_rule_whose_premises_hold_mostly_alone(self):
        self.assertEqual(answered("most a: -> p", "sure b: p -> q", "most c: -> -q"), {
            "p": "mostly", "-p": "no", "q": "no", "-q": "no"})
        self.assertEqual(answered("most a: -> p", "sure b: p -> q")["q"], "mostly")
        self.assertEqual(answered("most a: -> p", "sure b: p -> q", "most c: -> -q", "beats b c")["q"], "mostly")

    def test_blocks_speak_for_nothing(self):
        self.assertEqual(answered("block a: -> p"), {"p": "no", "-p": "no"})
        self.assertEqual(answered("most a: -> p", "block b: -> -p"), {"p": "no", "-p": "no"})
        self.assertEqual(answered("most a: -> p", "block b: -> -p", "beats a b"), {"p": "mostly", "-p": "no"})
        self.assertEqual(answered("most a: -> p", "block b: q -> -p"), {"p": "mostly", "-p": "no", "q": "no", "-q": "no"})

    def test_a_block_does_not_keep_back_what_is_sure(self):
        self.assertEqual(answered("fact p", "block b: -> -p", "beats b b"), {"p": "surely", "-p": "no"})

    def test_a_rule_that_beats_two_and_two_that_beat_one(self):
        rows = ["most a: -> p", "most b: -> -p", "most c: -> -p"]
        self.assertEqual(answered(*rows, "beats a b", "beats a c")["p"], "mostly")
        self.assertEqual(answered(*rows, "beats a b")["p"], "no")
        self.assertEqual(answered(*rows, "beats b a", "beats c a"), {"p": "no", "-p": "mostly"})
        self.assertEqual(answered(*rows, "most d: -> p", "beats a b", "beats d c"), {"p": "mostly", "-p": "no"})

    def test_rules_in_rings_stay_open(self):
        here = ground("most a: q -> p", "most b: p -> q", "most c: p -> s")
        self.assertEqual(ranked(here), {"p": ("open", 0), "q": ("open", 0), "s": ("open", 0),
                                        "-p": ("no", 1), "-q": ("no", 1), "-s": ("no", 1)})
        self.assertEqual(answered("most a: p -> p")["p"], "open")
        self.assertEqual(answered("sure a: q -> p", "sure b: p -> q")["p"], "open")
        self.assertEqual(answered("most a: -p -> p", "most b: p -> -p"), {"p": "open", "-p": "open"})

    def test_a_rule_whose_head_is_a_premise_against_it(self):
        self.assertEqual(answered("most a: -> p", "block b: p -> -p"), {"p": "open", "-p": "no"})
        self.assertEqual(answered("most a: -> p", "block b: p -> -p", "beats a b")["p"], "mostly")

    def test_what_stands_nowhere_is_refused_in_the_first_round(self):
        for rows in ([], ["fact q"], ["most a: p(a) -> p(b)"]):
            answers = Answers(ground(*rows))
            for q in ("p", "-p", "p(c)", "-zz(a,b)"):
                self.assertEqual((answers.sure(q), answers.held(q), answers.refused(q), answers.answer(q), answers.rank(q)),
                                 (False, False, True, "no", 1))

    def test_a_premise_without_rules_is_refused(self):
        self.assertEqual(answered("most a: q -> p"), {"p": "no", "-p": "no", "q": "no", "-q": "no"})
        self.assertEqual(Answers(ground("most a: q -> p")).rank("p"), 2)

    def test_the_questions_and_the_answer_go_together(self):
        for number in range(200):
            here = made.ground(number)
            answers = Answers(here)
            for q in here.statements() + ["x"]:
                told = (answers.sure(q), answers.held(q), answers.refused(q))
                self.assertEqual(told, {"surely": (True, True, False), "mostly": (False, True, False),
                                        "no": (False, False, True), "open": (False, False, False)}[answers.answer(q)])
                self.assertEqual(answers.rank(q) == 0, answers.answer(q) == "open")

    def test_listed_are_all_statements_rising(self):
        for number in range(100):
            here = made.ground(number)
            answers = Answers(here)
            self.assertEqual([q for q, _ in answers.listed()], here.statements())
            self.assertEqual(answers.listed(), [(q, answers.answer(q)) for q in here.statements()])
        self.assertEqual(Answers(ground()).listed(), [])

    def test_sures(self):
        here = ground("sure a: b -> -z", "fact c", "fact b", "sure d: c -> a")
        self.assertEqual(Answers(here).sures(), ["b", "c", "-z", "a"])
        for number in range(100):
            here = made.ground(number)
            self.assertEqual(Answers(here).sures(), sure_steps(here))

    def test_against_the_plain_way(self):
        for number in range(500):
            rules, pairs = made.ground_parts(number, rings=number % 2 == 0)
            here = Ground(rules, pairs)
            self.assertEqual(dict(Answers(here).listed()), oracle.answers(rules, pairs))
            came = oracle.words(rules, pairs)
            self.assertEqual({q: told[1] for q, told in ranked(here).items()},
                             {q: came.get(q, ("", 0))[1] for q in here.statements()})

    def test_written_out_books_against_the_plain_way(self):
        for number in range(150):
            book = made.book(number)
            here = ground_of(book)
            self.assertEqual(dict(Answers(here).listed()), oracle.answers(here.rules(), book.beats()))

    def test_long_roads_of_rules(self):
        rules = [rule_of("most r%d: p(x%s) -> p(x%s)" % (number, letters(number), letters(number + 1)))
                 for number in range(119)]
        here = Ground(rules + [rule_of("fact p(xaa)")], [])
        answers = Answers(here)
        self.assertEqual([answers.rank("p(x" + letters(number) + ")") for number in range(120)], list(range(1, 121)))
        self.assertEqual(answers.answer("p(x" + letters(119) + ")"), "mostly")


def letters(number):
    return "abcdefghijklmnopqrstuvwxyz"[number // 26] + "abcdefghijklmnopqrstuvwxyz"[number % 26]


class PromisesTest(unittest.TestCase):
    """[56], [57] and what [5] says of answers"""

    def test_answers_and_ranks_are_the_same_in_whatever_order_the_rules_stand(self):
        source = random.Random(56)
        for number in range(200):
            rules, pairs = made.ground_parts(number, rings=number % 2 == 0)
            wanted = ranked(Ground(rules, pairs))
            for _ in range(3):
                source.shuffle(rules)
                source.shuffle(pairs)
                self.assertEqual(ranked(Ground(rules, pairs)), wanted)

    def test_rounds_are_the_same_in_whatever_order_the_statements_stand(self):
        source = random.Random(57)
        for number in range(100):
            here = made.ground(number)
            some = here.statements()
            wanted = most_rounds(here, some, sure_steps(here), {})
            source.shuffle(some)
            self.assertEqual(most_rounds(here, some, sure_steps(here)[::-1], {}), wanted)

    def test_each_sure_statement_is_held_with_rank_one(self):
        for number in range(200):
            answers = Answers(made.ground(number))
            for q in answers.sures():
                self.assertEqual((answers.held(q), answers.refused(q), answers.rank(q)), (True, False, 1))

    def test_a_statement_and_its_opposite_are_both_held_only_where_both_are_sure(self):
        for number in range(500):
            here = made.ground(number)
            answers = Answers(here)
            for q in here.statements():
                if answers.held(q) and answers.held(opposite(q)):
                    self.assertTrue(answers.sure(q) and answers.sure(opposite(q)))

    def test_where_labels_beat_one_another_in_a_ring_both_may_be_held(self):
        self.assertEqual(answered("most a: -> p", "most b: -> -p", "beats a b", "beats b a"), {"p": "mostly", "-p": "mostly"})

    def test_over_what_leans_on_something_the_same_words_come_in(self):
        source = random.Random(58)
        for number in range(300):
            rules, pairs = made.ground_parts(number, rings=number % 2 == 0)
            here = Ground(rules, pairs)
            answers = Answers(here)
            some = leaners(here, source.sample(here.statements(), min(2, len(here.statements()))))
            known = {}
            for q in here.statements():
                if q not in some and answers.answer(q) != "open":
                    known[q] = "held" if answers.held(q) else "refused"
            told = most_rounds(here, some, sure_steps(here), known)
            wanted = {q: "held" if answers.held(q) else "refused" for q in some if answers.answer(q) != "open"}
            self.assertEqual({q: word for q, (word, _) in told.items()}, wanted)


class OwnTest(unittest.TestCase):
    """[2]"""

    def test_lists_that_are_told_are_the_askers_own(self):
        answers = Answers(ground("fact p", "most a: p -> q"))
        listed, sures = answers.listed(), answers.sures()
        self.assertIs(listed.__class__, list)
        self.assertEqual([entry.__class__ for entry in listed], [tuple] * 4)
        answers.listed().clear()
        answers.sures().append("q")
        answers.listed().append(("x", "surely"))
        self.assertEqual((answers.listed(), answers.sures()), (listed, sures))
        self.assertEqual((answers.answer("q"), answers.answer("x")), ("mostly", "no"))

    def test_the_ground_stays(self):
        here = ground("fact p", "most a: p -> q", "block b: q -> -p", "beats a b")
        before = [rule.row() for rule in here.rules()]
        Answers(here)
        self.assertEqual([rule.row() for rule in here.rules()], before)


if __name__ == "__main__":
    unittest.main()
