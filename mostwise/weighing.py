"""The rules about a statement, weighed: which stand, which fall, and which beat which."""

from mostwise.mostly import Answers


def state_of(answers, rule):
    if all([answers.held(premise) for premise in rule.body]):
        return "stands"
    return "falls" if any([answers.refused(premise) for premise in rule.body]) else "open"


def weighed(ground, statement):
    answers = Answers(ground)
    speaking = ground.speaking(statement)
    told_for = [(rule.label, state_of(answers, rule)) for rule in speaking]
    told_against = []
    for rule in ground.against(statement):
        beaters = [place for place, beater in enumerate(speaking) if ground.beats(beater, rule)]
        told_against.append((rule.label, state_of(answers, rule), beaters))
    return (told_for, told_against)
