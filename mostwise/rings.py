"""Roads over pairs of beats, from one label to another one."""


def steps_to(pairs, other):
    # By how many steps each label comes to the other one at the least; labels that never do are not there.
    steps = {other: 0}
    reached = [other]
    while len(reached) > 0:
        fresh = []
        for pair in pairs:
            if pair[1] in reached and pair[0] not in steps:
                steps[pair[0]] = steps[pair[1]] + 1
                fresh.append(pair[0])
        reached = fresh
    return steps


def least_nearer(pairs, steps, label):
    return min([pair[1] for pair in pairs if pair[0] == label and steps.get(pair[1]) == steps[label] - 1])


def road(pairs, one, other):
    steps = steps_to(pairs, other)
    if one not in steps:
        return None
    told = [one]
    # All shortest roads are of like length, so the least label at each step makes the least road.
    while told[-1] != other:
        told.append(least_nearer(pairs, steps, told[-1]))
    return told
