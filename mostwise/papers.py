"""Papers: steps that show an answer, and the small checker that lets them by."""

from mostwise.among import keyed
from mostwise.errors import StillOpen
from mostwise.leaning import leans_on
from mostwise.mostly import HELD, REFUSED, Answers, holds_by, refused_by
from mostwise.sure import is_sure_set


def with_word(rows, word):
    return keyed([row[1] for row in rows if row[0] == word])


def follows(ground, sures, rows, claim):
    held = with_word(rows, HELD)
    refused = with_word(rows, REFUSED)
    if claim[0] == HELD:
        return holds_by(ground, sures, held, refused, claim[1])
    if claim[0] == REFUSED:
        return refused_by(ground, sures, held, refused, claim[1])
    return False


def lets_by(ground, paper):
    sures = paper[0]
    rows = paper[1]
    if not is_sure_set(ground, sures):
        return False
    return all([follows(ground, sures, rows[:place], row) for place, row in enumerate(rows)])


def claim_of(answers, statement):
    # None where the statement is open, as neither word is so then.
    if answers.held(statement):
        return (HELD, statement)
    return (REFUSED, statement) if answers.refused(statement) else None


def claims_by_rank(answers, statements):
    decided = [q for q in statements if claim_of(answers, q) is not None]
    by_rank = sorted(decided, key=lambda q: (answers.rank(q), q))
    return [claim_of(answers, q) for q in by_rank]


def paper_of(ground, statement):
    answers = Answers(ground)
    claim = claim_of(answers, statement)
    if claim is None:
        raise StillOpen(statement)
    # A claim follows from those of the earlier rounds, and of these only from such as its statement leans on.
    ahead = [q for q in leans_on(ground, statement) if answers.rank(q) < answers.rank(statement)]
    return (answers.sures(), claims_by_rank(answers, ahead) + [claim])
