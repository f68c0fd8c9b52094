"""What becomes sure: by facts and sure rules alone."""

from mostwise.among import all_among, keyed


def sure_rounds(rules, known=None):
    sure = keyed([] if known is None else known)
    waiting = [rule for rule in rules if rule.is_sure() and rule.head not in sure]
    ranks = {}
    rank = 1
    fresh = [rule.head for rule in waiting if all_among(rule.body, sure)]
    while len(fresh) > 0:
        for head in fresh:
            ranks[head] = rank
            sure[head] = True
        waiting = [rule for rule in waiting if rule.head not in sure]
        rank = rank + 1
        fresh = [rule.head for rule in waiting if all_among(rule.body, sure)]
    return ranks


def sure_steps(ground):
    ranks = sure_rounds(ground.rules())
    return sorted(ranks, key=lambda statement: (ranks[statement], statement))


def is_sure_set(ground, some):
    ahead = {}
    for text in some:
        ways = [rule for rule in ground.ruling(text) if rule.is_sure()]
        if text in ahead or not any([all_among(rule.body, ahead) for rule in ways]):
            return False
        ahead[text] = True
    sure_rules = [rule for rule in ground.rules() if rule.is_sure()]
    return all([rule.head in ahead for rule in sure_rules if all_among(rule.body, ahead)])
