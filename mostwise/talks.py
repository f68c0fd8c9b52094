"""Talks about a claim: one hand defends it, the other one asks on."""

from mostwise.among import keyed
from mostwise.errors import NoStand, NoTurn
from mostwise.mostly import Answers
from mostwise.papers import claim_of, claims_by_rank, follows


def is_so(answers, claim):
    return claim_of(answers, claim[1]) == claim


def is_place(thing, many):
    return isinstance(thing, int) and not isinstance(thing, bool) and 0 <= thing < many


class Talk:
    def __init__(self, ground, claim):
        self.talked_over = ground
        self.answers = Answers(ground)
        self.table = claim
        # None where no stand lies.
        self.laid = None
        self.ended = False
        self.stands_laid = 0

    def now(self):
        return self.table

    def over(self):
        return self.ended

    def turns(self):
        return self.stands_laid

    def stand(self):
        if not is_so(self.answers, self.table):
            return None
        statement = self.table[1]
        premises = []
        for rule in self.talked_over.ruling(statement) + self.talked_over.against(statement):
            premises.extend(rule.body)
        # What came in earlier among the premises is all that let the claim come in; sorted, and so the same
        # in whatever order the rules stand.
        earlier = [q for q in keyed(premises) if self.answers.rank(q) < self.answers.rank(statement)]
        return claims_by_rank(self.answers, earlier)

    def stood(self, premises):
        if self.laid is not None or self.ended:
            raise NoTurn()
        if not follows(self.talked_over, self.answers.sures(), premises, self.table):
            raise NoStand(self.table)
        self.stands_laid = self.stands_laid + 1
        if len(premises) == 0:
            self.ended = True
        else:
            self.laid = list(premises)

    def wish(self):
        if self.laid is None:
            raise NoTurn()
        for place, premise in enumerate(self.laid):
            if not is_so(self.answers, premise):
                return place
        return None

    def asked_on(self, place):
        if self.laid is None:
            raise NoTurn()
        if not is_place(place, len(self.laid)):
            raise NoStand(place)
        self.table = self.laid[place]
        self.laid = None


def played(ground, claim, asker):
    talk = Talk(ground, claim)
    premises = talk.stand()
    if premises is None:
        raise NoStand(claim)
    trail = [claim]
    talk.stood(premises)
    while not talk.over():
        talk.asked_on(asker(premises))
        trail.append(talk.now())
        premises = talk.stand()
        talk.stood(premises)
    return trail
