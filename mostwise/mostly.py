"""What holds mostly: statements held and refused by rounds, and the answers that come of it."""

from mostwise.among import all_among, any_among, keyed
from mostwise.leaning import heads_by_premise
from mostwise.sure import sure_steps
from mostwise.words import opposite

HELD = "held"
REFUSED = "refused"


def is_beaten(ground, rule, beaters):
    return any([ground.beats(beater, rule) for beater in beaters])


def holds_by(ground, sures, held, refused, q):
    if q in sures:
        return True
    standing = [rule for rule in ground.speaking(q) if all_among(rule.body, held)]
    if len(standing) == 0 or opposite(q) in sures:
        return False
    return all([any_among(rule.body, refused) or is_beaten(ground, rule, standing) for rule in ground.against(q)])


def refused_by(ground, sures, held, refused, q):
    if q in sures:
        return False
    unfallen = [rule for rule in ground.speaking(q) if not any_among(rule.body, refused)]
    if len(unfallen) == 0 or opposite(q) in sures:
        return True
    return any([all_among(rule.body, held) and not is_beaten(ground, rule, unfallen) for rule in ground.against(q)])


def words_now(ground, sures, held, refused, asked):
    words = {}
    for q in asked:
        if holds_by(ground, sures, held, refused, q):
            words[q] = HELD
        elif refused_by(ground, sures, held, refused, q):
            words[q] = REFUSED
    return words


def touched(heads, came):
    told = {}
    for premise in came:
        for head in heads.get(premise, []):
            told[head] = True
            told[opposite(head)] = True
    return told


def most_rounds(ground, some, sures, known):
    sure = keyed(sures)
    held = keyed([q for q in known if known[q] == HELD])
    refused = keyed([q for q in known if known[q] == REFUSED])
    heads = heads_by_premise(ground)
    wanted = keyed(some)
    told = {}
    rank = 1
    came = words_now(ground, sure, held, refused, wanted)
    while len(came) > 0:
        for q in came:
            told[q] = (came[q], rank)
        held.update(keyed([q for q in came if came[q] == HELD]))
        refused.update(keyed([q for q in came if came[q] == REFUSED]))
        rank = rank + 1
        # Only where a premise came in just now can the questions be answered otherwise than the round before.
        asked = [q for q in touched(heads, came) if q in wanted and q not in told]
        came = words_now(ground, sure, held, refused, asked)
    return told


def answer_by(is_sure, word):
    if is_sure:
        return "surely"
    if word == HELD:
        return "mostly"
    return "no" if word == REFUSED else "open"


class Answers:
    def __init__(self, ground):
        self.standing = keyed(ground.statements())
        self.sure_keys = keyed(sure_steps(ground))
        self.came = most_rounds(ground, ground.statements(), self.sure_keys, {})

    def word_and_rank(self, q):
        # No rule speaks for what stands nowhere, and none is against it: it would be refused in the first round.
        if q not in self.standing:
            return (REFUSED, 1)
        return self.came.get(q, ("", 0))

    def sure(self, q):
        return q in self.sure_keys

    def held(self, q):
        return self.word_and_rank(q)[0] == HELD

    def refused(self, q):
        return self.word_and_rank(q)[0] == REFUSED

    def answer(self, q):
        return answer_by(self.sure(q), self.word_and_rank(q)[0])

    def rank(self, q):
        return self.word_and_rank(q)[1]

    def listed(self):
        return [(q, self.answer(q)) for q in self.standing]

    def sures(self):
        return list(self.sure_keys)
