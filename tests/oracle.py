"""The points on what is sure and what holds mostly, said once more and as plainly as can be, to hold the program
against. Nothing here is drawn from the package but what a rule itself tells."""


def opp(statement):
    return statement[1:] if statement[0] == "-" else "-" + statement


def statements_in(rules):
    told = {statement for rule in rules for statement in (rule.head,) + rule.body}
    return sorted(told | {opp(statement) for statement in told})


def sure_ranks(rules, known=()):
    """[41]"""
    ranks, rank = {}, 0
    while True:
        rank += 1
        before = set(known) | set(ranks)
        fresh = {rule.head for rule in rules if rule.word() in ("fact", "sure") and set(rule.body) <= before} - before
        if not fresh:
            return ranks
        ranks.update({head: rank for head in fresh})


def may_hold(rules, pairs, sures, held, refused, q):
    """[51]"""
    speaking = [rule for rule in rules if rule.head == q and rule.word() != "block"]
    against = [rule for rule in rules if rule.head == opp(q)]
    standing = [rule for rule in speaking if all(premise in held for premise in rule.body)]
    if q in sures:
        return True
    if not standing or opp(q) in sures:
        return False
    for rule in against:
        falls = any(premise in refused for premise in rule.body)
        if not falls and not any((one.label, rule.label) in pairs for one in standing):
            return False
    return True


def may_refuse(rules, pairs, sures, held, refused, q):
    """[52]"""
    speaking = [rule for rule in rules if rule.head == q and rule.word() != "block"]
    against = [rule for rule in rules if rule.head == opp(q)]
    falls = {id(rule): any(premise in refused for premise in rule.body) for rule in speaking}
    if q in sures:
        return False
    if all(falls[id(rule)] for rule in speaking) or opp(q) in sures:
        return True
    return any(all(premise in held for premise in rule.body)
               and all(falls[id(one)] or (one.label, rule.label) not in pairs for one in speaking)
               for rule in against)


def rounds(rules, pairs, some, sures, known):
    """[53]"""
    held = {q for q in known if known[q] == "held"}
    refused = {q for q in known if known[q] == "refused"}
    told, rank = {}, 0
    while True:
        rank += 1
        waiting = [q for q in set(some) if q not in held and q not in refused]
        hold = {q for q in waiting if may_hold(rules, pairs, sures, held, refused, q)}
        refuse = {q for q in waiting if may_refuse(rules, pairs, sures, held, refused, q)}
        assert not hold & refuse
        if not hold | refuse:
            return told
        held |= hold
        refused |= refuse
        told.update({q: ("held", rank) for q in hold})
        told.update({q: ("refused", rank) for q in refuse})


def words(rules, pairs):
    """[54]: of all that stand in the rules, the word and the rank; those that stay open are not there."""
    return rounds(rules, pairs, statements_in(rules), sure_ranks(rules), {})


def answers(rules, pairs):
    """[55]"""
    sures, came = sure_ranks(rules), words(rules, pairs)
    told = {}
    for q in statements_in(rules):
        word = came.get(q, ("open", 0))[0]
        told[q] = "surely" if q in sures else {"held": "mostly", "refused": "no", "open": "open"}[word]
    return told


def leaned_on(rules, statement):
    """[38]"""
    told = {statement}
    while True:
        more = told | {opp(one) for one in told}
        more |= {premise for rule in rules if rule.head in told for premise in rule.body}
        if more == told:
            return sorted(told)
        told = more


def leaning(rules, some):
    """[38]"""
    told = set(some)
    while True:
        more = told | {opp(one) for one in told}
        more |= {rule.head for rule in rules if set(rule.body) & told}
        if more == told:
            return sorted(told)
        told = more


def follows(rules, pairs, sures, rows, claim):
    """[60]"""
    ask = {"held": may_hold, "refused": may_refuse}[claim[0]]
    return ask(rules, pairs, sures, [q for word, q in rows if word == "held"],
               [q for word, q in rows if word == "refused"], claim[1])


def let_by(rules, pairs, paper):
    """[61], the list of sure statements is looked at by [44]."""
    sures, rows = paper
    sure = [rule for rule in rules if rule.word() in ("fact", "sure")]
    if sorted(sures) != sorted(sure_ranks(rules)):
        return False
    for at, text in enumerate(sures):
        if not any(rule.head == text and set(rule.body) <= set(sures[:at]) for rule in sure):
            return False
    return all(follows(rules, pairs, sures, rows[:at], row) for at, row in enumerate(rows))


def keeps_open(rules, pairs, told):
    """[63]"""
    sures, rows, some = told
    if not let_by(rules, pairs, (sures, rows)) or some != sorted(set(some)):
        return False

    def as_held(q):
        return q not in some and ("refused", q) not in rows

    def as_refused(q):
        return q not in some and ("held", q) not in rows

    for q in some:
        speaking = [rule for rule in rules if rule.head == q and rule.word() != "block"]
        against = [rule for rule in rules if rule.head == opp(q)]
        stand = [rule for rule in speaking if all(as_held(premise) for premise in rule.body)]
        fall = [rule for rule in speaking if any(as_refused(premise) for premise in rule.body)]
        first = q in sures or opp(q) in sures
        second = (opp(q) not in sures and bool(stand) and all(
            any(as_refused(premise) for premise in rule.body) or any((one.label, rule.label) in pairs for one in stand)
            for rule in against))
        third = len(fall) == len(speaking)
        fourth = any(all(as_held(premise) for premise in rule.body)
                     and all(one in fall or (one.label, rule.label) not in pairs for one in speaking) for rule in against)
        if first or second or third or fourth:
            return False
    return True
