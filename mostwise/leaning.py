"""What a statement leans on, and what leans on statements."""

from mostwise.words import opposite


def reached(starts, steps):
    told = {}
    waiting = list(starts)
    while len(waiting) > 0:
        statement = waiting.pop()
        if statement not in told:
            told[statement] = True
            waiting.append(opposite(statement))
            waiting.extend(steps.get(statement, []))
    return sorted(told)


def heads_by_premise(ground):
    heads = {}
    for rule in ground.rules():
        for premise in rule.body:
            heads.setdefault(premise, []).append(rule.head)
    return heads


def leans_on(ground, statement):
    premises = {}
    for rule in ground.rules():
        premises.setdefault(rule.head, []).extend(rule.body)
    return reached([statement], premises)


def leaners(ground, some):
    return reached(some, heads_by_premise(ground))
