"""The herd turned, which falls back just where the row passes, and what each one weighs."""


def weighed(row):
    """The list of each one's strength less the tolls of all ahead of it."""
    told = []
    tolls = 0
    for strength, toll in row:
        told.append(strength - tolls)
        tolls += toll
    return told


def turned(row):
    """The ROW of the same tolls, in which each strength is the tolls of all ahead, less its own."""
    return tuple([(-weight, toll) for weight, (strength, toll) in zip(weighed(row), row)])
