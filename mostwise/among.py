"""Whether statements are among others; what is asked often is kept as a dict, which answers quickly."""


def keyed(some):
    told = {}
    for statement in some:
        told[statement] = True
    return told


def all_among(statements, some):
    return all([statement in some for statement in statements])


def any_among(statements, some):
    return any([statement in some for statement in statements])
