"""[90] to [95], what [2] and [4] say of them, and the interface of mostwise/talks.py."""

import random
import unittest

import made
from made import read_ground as ground
from mostwise.errors import MostError, NoStand, NoTurn
from mostwise.ground import Ground
from mostwise.mostly import Answers
from mostwise.papers import follows
from mostwise.sure import sure_steps
from mostwise.talks import Talk, played
from odd import no_texts

CHAIN = ["fact p", "most a: p -> q", "most b: q -> s", "block c: t -> -s"]


def is_so(answers, claim):
    return {"held": answers.held, "refused": answers.refused}[claim[0]](claim[1])


def claims(here):
    return [(word, q) for q in here.statements() + ["x"] for word in ("held", "refused")]


def told(talk):
    return (talk.now(), talk.over(), talk.turns(), talk.stand())


class TalkTest(unittest.TestCase):
    def refused(self, kind, deed, *values):
        with self.assertRaises(MostError) as caught:
            deed(*values)
        self.assertIs(caught.exception.__class__, kind)
        return caught.exception

    def refused_and_unchanged(self, talk, kind, deed, *values):
        before = told(talk)
        error = self.refused(kind, deed, *values)
        self.assertEqual(told(talk), before)
        return error


class TurnsTest(TalkTest):
    """[90]"""

    def test_at_first_the_claim_lies_on_the_table(self):
        for claim in (("held", "s"), ("refused", "s"), ("held", "x")):
            talk = Talk(ground(*CHAIN), claim)
            self.assertEqual((talk.now(), talk.over(), talk.turns()), (claim, False, 0))

    def test_stands_and_asking_on_by_turns(self):
        talk = Talk(ground(*CHAIN), ("held", "s"))
        self.assertIsNone(talk.stood([("refused", "t"), ("held", "q")]))
        self.assertEqual((talk.now(), talk.over(), talk.turns()), (("held", "s"), False, 1))
        self.assertIsNone(talk.asked_on(1))
        self.assertEqual((talk.now(), talk.over(), talk.turns()), (("held", "q"), False, 1))
        talk.stood([("held", "p")])
        talk.asked_on(0)
        self.assertEqual((talk.now(), talk.over(), talk.turns()), (("held", "p"), False, 2))
        talk.stood([])
        self.assertEqual((talk.now(), talk.over(), talk.turns()), (("held", "p"), True, 3))

    def test_a_stand_without_premises_ends_the_talk_and_does_not_lie(self):
        talk = Talk(ground(), ("refused", "x"))
        talk.stood([])
        self.assertEqual((talk.now(), talk.over(), talk.turns()), (("refused", "x"), True, 1))
        self.refused_and_unchanged(talk, NoTurn, talk.wish)
        self.refused_and_unchanged(talk, NoTurn, talk.asked_on, 0)
        self.refused_and_unchanged(talk, NoTurn, talk.stood, [])

    def test_behind_asking_on_the_stand_lies_no_more(self):
        talk = Talk(ground(*CHAIN), ("held", "q"))
        talk.stood([("held", "p")])
        talk.asked_on(0)
        self.refused_and_unchanged(talk, NoTurn, talk.wish)
        self.refused_and_unchanged(talk, NoTurn, talk.asked_on, 0)

    def test_the_sure_statements_of_the_ground_are_taken_as_sure(self):
        here = ground("fact p", "most a: -> -p", "sure b: p -> q")
        for claim in (("held", "p"), ("refused", "-p"), ("held", "q"), ("refused", "-q")):
            talk = Talk(here, claim)
            talk.stood([])
            self.assertIs(talk.over(), True)


class StoodTest(TalkTest):
    """[91]"""

    def test_premises_that_are_not_so_in_any_order_and_twice(self):
        here = ground("most a: q, x -> p", "block b: y -> -p")
        for premises in ([("held", "q"), ("held", "x"), ("refused", "y")],
                         [("refused", "y"), ("held", "x"), ("held", "x"), ("held", "q"), ("refused", "y")],
                         [("held", "z"), ("held", "q"), ("held", "x"), ("refused", "y"), ("refused", "q")]):
            talk = Talk(here, ("held", "p"))
            talk.stood(premises)
            self.assertEqual(talk.turns(), 1)
            talk.asked_on(len(premises) - 1)
            self.assertEqual(talk.now(), premises[-1])

    def test_what_does_not_follow_is_refused(self):
        talk = Talk(ground(*CHAIN), ("held", "s"))
        for premises in ([], [("held", "p")], [("held", "q")], [("refused", "t")], [("held", "q"), ("held", "t")],
                         [("refused", "q"), ("refused", "t")], [("held", "s")], [("held", "s"), ("refused", "t")]):
            self.assertEqual(self.refused_and_unchanged(talk, NoStand, talk.stood, premises).found, ("held", "s"))
        talk.stood([("held", "q"), ("refused", "t")])
        talk.asked_on(0)
        self.assertEqual(self.refused_and_unchanged(talk, NoStand, talk.stood, []).found, ("held", "q"))

    def test_no_turn_comes_ahead_of_no_stand(self):
        talk = Talk(ground(*CHAIN), ("held", "q"))
        talk.stood([("held", "p")])
        for premises in ([], [("held", "p")], [("held", "x")]):
            self.refused_and_unchanged(talk, NoTurn, talk.stood, premises)
        self.assertIsNone(talk.wish())
        talk.asked_on(0)
        talk.stood([])
        for premises in ([], [("held", "p")], [("held", "x")]):
            self.refused_and_unchanged(talk, NoTurn, talk.stood, premises)

    def test_a_stand_is_let_by_just_where_the_claim_follows(self):
        source = random.Random(91)
        for number in range(150):
            here = made.ground(number, rings=number % 2 == 0)
            every = claims(here)
            for claim in every:
                premises = [source.choice(every) for _ in range(source.randint(0, 4))]
                talk = Talk(here, claim)
                if follows(here, sure_steps(here), premises, claim):
                    talk.stood(premises)
                    self.assertEqual((talk.over(), talk.turns()), (premises == [], 1))
                else:
                    self.assertEqual(self.refused(NoStand, talk.stood, premises).found, claim)
                    self.assertEqual((talk.over(), talk.turns()), (False, 0))


class AskedOnTest(TalkTest):
    """[92]"""

    def test_places_from_nought_to_the_last(self):
        premises = [("held", "q"), ("refused", "t"), ("held", "q"), ("held", "z")]
        for place in range(4):
            talk = Talk(ground(*CHAIN), ("held", "s"))
            talk.stood(premises)
            talk.asked_on(place)
            self.assertEqual(talk.now(), premises[place])

    def test_what_is_no_place(self):
        talk = Talk(ground(*CHAIN), ("held", "s"))
        talk.stood([("held", "q"), ("refused", "t")])
        for wrong in (-1, -2, 2, 3, 10 ** 30, -10 ** 30, "0", "", "1", ("held", "q")):
            self.assertEqual(self.refused_and_unchanged(talk, NoStand, talk.asked_on, wrong).found, wrong)
        for thing in no_texts():
            if thing.__class__ is int and thing in (0, 1):
                continue
            self.assertIs(self.refused_and_unchanged(talk, NoStand, talk.asked_on, thing).found, thing)
        for wrong in (True, False, None, 0.0, 1.0):
            self.assertIs(self.refused_and_unchanged(talk, NoStand, talk.asked_on, wrong).found, wrong)
        talk.asked_on(0)

    def test_no_turn_comes_ahead_of_no_stand(self):
        talk = Talk(ground(*CHAIN), ("held", "q"))
        for place in (0, -1, 7, True, None, "0"):
            self.refused_and_unchanged(talk, NoTurn, talk.asked_on, place)
        talk.stood([("held", "p")])
        talk.asked_on(0)
        talk.stood([])
        for place in (0, -1, None):
            self.refused_and_unchanged(talk, NoTurn, talk.asked_on, place)


class HelpTest(TalkTest):
    """[93]"""

    def test_the_stand_that_is_told(self):
        for number in range(250):
            here = made.ground(number, rings=number % 3 == 0)
            answers = Answers(here)
            for claim in claims(here):
                stand = Talk(here, claim).stand()
                if not is_so(answers, claim):
                    self.assertIsNone(stand)
                    continue
                self.assertIs(stand.__class__, list)
                self.assertEqual(len(set(stand)), len(stand))
                self.assertTrue(all(is_so(answers, premise) for premise in stand))
                self.assertTrue(follows(here, sure_steps(here), stand, claim))
                self.assertTrue(all(0 < answers.rank(q) < answers.rank(claim[1]) for _, q in stand))

    def test_also_where_a_stand_lies_or_the_talk_is_over(self):
        talk = Talk(ground(*CHAIN), ("held", "q"))
        self.assertEqual(talk.stand(), [("held", "p")])
        talk.stood([("held", "p"), ("held", "x")])
        self.assertEqual(talk.stand(), [("held", "p")])
        talk.asked_on(1)
        self.assertIsNone(talk.stand())
        talk = Talk(ground(*CHAIN), ("held", "p"))
        talk.stood([])
        self.assertEqual(talk.stand(), [])

    def test_talks_over_equal_grounds_tell_the_same(self):
        source = random.Random(93)
        for number in range(60):
            rules, pairs = made.ground_parts(number)
            here = Ground(rules, pairs)
            source.shuffle(rules)
            source.shuffle(pairs)
            for claim in claims(here):
                self.assertEqual(Talk(here, claim).stand(), Talk(Ground(rules, pairs), claim).stand())
                self.assertEqual(Talk(here, claim).stand(), Talk(here, claim).stand())

    def test_the_wish_is_the_first_premise_that_is_not_so(self):
        here = ground("fact p", "most a: p, q, s -> t", "most b: p -> s")
        for premises, place in (([("held", "p"), ("held", "q"), ("held", "s")], 1),
                                ([("held", "q"), ("held", "p"), ("held", "s")], 0),
                                ([("held", "p"), ("held", "s"), ("refused", "p"), ("held", "q")], 2),
                                ([("held", "s"), ("held", "s"), ("held", "p"), ("held", "q")], 3)):
            talk = Talk(here, ("held", "t"))
            talk.stood(premises)
            self.assertEqual(talk.wish(), place)
            self.assertEqual(talk.turns(), 1)

    def test_an_open_premise_is_not_so(self):
        talk = Talk(ground("most a: o -> p", "most b: o -> o"), ("held", "p"))
        talk.stood([("held", "o")])
        self.assertEqual(talk.wish(), 0)

    def test_no_wish_where_all_are_so(self):
        talk = Talk(ground(*CHAIN), ("held", "s"))
        talk.stood(talk.stand())
        self.assertIsNone(talk.wish())

    def test_no_wish_where_no_stand_lies(self):
        talk = Talk(ground(*CHAIN), ("held", "q"))
        self.refused_and_unchanged(talk, NoTurn, talk.wish)


class EndsTest(TalkTest):
    """[94]"""

    def test_a_defender_of_what_is_so_comes_to_an_end_whatever_is_asked_on(self):
        source = random.Random(94)
        for number in range(200):
            here = made.ground(number, rings=number % 3 == 0)
            answers = Answers(here)
            for claim in claims(here):
                if not is_so(answers, claim):
                    continue
                talk = Talk(here, claim)
                while not talk.over():
                    stand = talk.stand()
                    talk.stood(stand)
                    if stand:
                        self.assertIsNone(talk.wish())
                        talk.asked_on(source.randrange(len(stand)))
                self.assertLessEqual(talk.turns(), answers.rank(claim[1]))

    def test_whatever_stand_is_laid_for_what_is_not_so_one_premise_is_not_so(self):
        source = random.Random(95)
        laid = 0
        for number in range(200):
            here = made.ground(number, rings=number % 3 == 0)
            answers = Answers(here)
            for claim in claims(here):
                if is_so(answers, claim):
                    continue
                talk = Talk(here, claim)
                for _ in range(4):
                    q = talk.now()[1]
                    about = [premise for rule in here.ruling(q) + here.against(q) for premise in rule.body]
                    stand = [(source.choice(["held", "refused"]), premise) for premise in about + about]
                    try:
                        talk.stood(stand)
                    except NoStand:
                        continue
                    laid += 1
                    self.assertIs(talk.over(), False)
                    place = talk.wish()
                    self.assertFalse(is_so(answers, stand[place]))
                    self.assertTrue(all(is_so(answers, premise) for premise in stand[:place]))
                    talk.asked_on(place)
                self.assertIs(talk.over(), False)
        self.assertGreater(laid, 300)


class PlayedTest(TalkTest):
    """[95]"""

    def test_the_trail(self):
        here = ground(*CHAIN)
        for claim, trail in ((("held", "s"), [("held", "s"), ("held", "q"), ("held", "p")]),
                             (("held", "p"), [("held", "p")]), (("refused", "x"), [("refused", "x")])):
            told_trail = played(here, claim, lambda stand: stand.index(("held", "q")) if ("held", "q") in stand else 0)
            self.assertIs(told_trail.__class__, list)
            self.assertEqual(told_trail, trail)

    def test_a_claim_that_is_not_so(self):
        asked = []
        here = ground("most a: o -> o", *CHAIN)
        for claim in (("refused", "s"), ("held", "t"), ("held", "x"), ("held", "o"), ("refused", "o")):
            self.assertEqual(self.refused(NoStand, played, here, claim, asked.append).found, claim)
        self.assertEqual(asked, [])

    def test_an_asker_that_tells_no_place(self):
        here = ground(*CHAIN)
        for wrong in (-1, 2, 10 ** 9, True, False, None, "0", 0.0, [], ("held", "q")):
            self.assertIs(self.refused(NoStand, played, here, ("held", "s"), lambda stand: wrong).found, wrong)

    def test_an_asker_that_tells_no_place_later_on(self):
        places = [0, None]
        here = ground("fact p", "most a: p -> q", "most b: q -> s")
        self.assertIsNone(self.refused(NoStand, played, here, ("held", "s"), lambda stand: places.pop(0)).found)

    def test_an_asker_that_empties_what_it_is_handed(self):
        def emptying(stand):
            last = len(stand) - 1
            stand.clear()
            return last

        for number in range(60):
            here = made.ground(number)
            answers = Answers(here)
            for claim in claims(here):
                if is_so(answers, claim):
                    self.assertEqual(played(here, claim, emptying), played(here, claim, lambda stand: len(stand) - 1))

    def test_the_asker_is_handed_each_stand_that_is_not_empty_as_a_new_list(self):
        handed = []

        def asker(stand):
            handed.append(stand)
            return 0

        here = ground("fact p", "most a: p -> q", "most b: q -> s")
        self.assertEqual(played(here, ("held", "s"), asker), [("held", "s"), ("held", "q"), ("held", "p")])
        self.assertEqual(handed, [[("held", "q")], [("held", "p")]])
        self.assertEqual([stand.__class__ for stand in handed], [list, list])
        self.assertIsNot(handed[0], handed[1])

    def test_over_many_grounds(self):
        source = random.Random(96)
        for number in range(100):
            here = made.ground(number)
            answers = Answers(here)
            for claim in claims(here):
                if not is_so(answers, claim):
                    self.refused(NoStand, played, here, claim, lambda stand: 0)
                    continue
                trail = played(here, claim, lambda stand: source.randrange(len(stand)))
                self.assertEqual(trail[0], claim)
                self.assertTrue(all(is_so(answers, one) for one in trail))
                ranks = [answers.rank(q) for _, q in trail]
                self.assertEqual(ranks, sorted(set(ranks), reverse=True))


class OwnTest(TalkTest):
    """[2]"""

    def test_lists_that_are_handed_in_stay_and_may_be_changed_behind(self):
        talk = Talk(ground(*CHAIN), ("held", "s"))
        premises = [("held", "q"), ("refused", "t")]
        talk.stood(premises)
        self.assertEqual(premises, [("held", "q"), ("refused", "t")])
        premises.insert(0, ("held", "x"))
        premises.append(("held", "x"))
        self.assertIsNone(talk.wish())
        self.refused(NoStand, talk.asked_on, 2)
        talk.asked_on(0)
        self.assertEqual(talk.now(), ("held", "q"))

    def test_what_is_told_is_the_askers_own(self):
        talk = Talk(ground(*CHAIN), ("held", "q"))
        stand = talk.stand()
        stand.append(("held", "x"))
        self.assertEqual(talk.stand(), [("held", "p")])
        talk.stood(talk.stand())
        talk.stand().clear()
        self.assertIsNone(talk.wish())

    def test_two_talks_share_nothing(self):
        here = ground(*CHAIN)
        one, other = Talk(here, ("held", "p")), Talk(here, ("held", "p"))
        one.stood([])
        self.assertEqual((one.over(), other.over(), other.turns()), (True, False, 0))


if __name__ == "__main__":
    unittest.main()
