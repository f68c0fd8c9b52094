"""What holds a statement open: a paper, and statements of which none could be the first to come in."""

from mostwise.among import keyed
from mostwise.errors import Decided
from mostwise.leaning import leans_on
from mostwise.mostly import HELD, REFUSED, Answers, holds_by, refused_by
from mostwise.papers import claims_by_rank, lets_by, with_word


def rises(some):
    return all([some[place] < some[place + 1] for place in range(len(some) - 1)])


def out_of_the_way(ground, some, contrary):
    # Only of what stands in the rules is it ever asked whether it is out of the way.
    return keyed([q for q in ground.statements() if q not in some and q not in contrary])


def keeps_open(ground, told):
    sures = told[0]
    rows = told[1]
    some = told[2]
    if not lets_by(ground, (sures, rows)) or not rises(some):
        return False
    maybe_held = out_of_the_way(ground, some, with_word(rows, REFUSED))
    maybe_refused = out_of_the_way(ground, some, with_word(rows, HELD))
    # What is sure may be held, and its opposite, where not sure, be refused: so these, too, could come in here.
    return not any([
        holds_by(ground, sures, maybe_held, maybe_refused, q) or refused_by(ground, sures, maybe_held, maybe_refused, q)
        for q in some
    ])


def open_of(ground, statement):
    answers = Answers(ground)
    if answers.answer(statement) != "open":
        raise Decided(statement)
    leaned = leans_on(ground, statement)
    some = [q for q in leaned if answers.answer(q) == "open"]
    return (answers.sures(), claims_by_rank(answers, leaned), some)
